/- So many votes alike as a quorum settle, one fewer does not. -/
import Derived.Test.YtkceihnjnjbceaaVEaM
import Derived.Test.YtkceihnjnjbceaaKb1
import Derived.Deep.DeepMust
namespace Go.Proofs.Ytkceihnjnjbceaa
open Go.RowKit

set_option maxRecDepth 100000 in
set_option maxHeartbeats 3200000 in
theorem venough_skip (ep : Int) (a : Option Addr) (n cap : Nat) (l : List Int) (hn : l.length = n) (hm : n ≤ maxLen) (t : ByteArray) (o : Option Addr) (no co : Nat) (hs : rightC ep l = false ∨ (rightC ep l = true ∧ (60 ≤ ep ∨ ¬ 0 < t.size))) (w : World) (hI : IntsIn w a l) :
    Calls Try.prog 7 #[.agg #[.int .i64 ep, .slice a n cap], .string t, .slice o no co] w fun e w' => e = .returned (.bool true) ∧ Below w.heap.size w w' := by
  have HL : Hid (∀ u : World, Calls Try.prog 9 #[] u fun e w' => e = .returned (.bool true) ∧ Below u.heap.size u w') := hid ulives_any
  have H0 : Hid (CvAt (w.alloc (.cells #[.int .i64 ep, .slice a n cap] 24)) w.heap.size ep (.slice a n cap) ∧ Below w.heap.size w (w.alloc (.cells #[.int .i64 ep, .slice a n cap] 24))) := hid ⟨heap_alloc_last w _, (Below.refl _ _).alloc (Nat.le_refl _) _⟩
  have HR : Hid (∀ u : World, Below w.heap.size w u → Calls Try.prog 27 #[.agg #[.int .i64 ep, .slice a n cap]] u fun e w' => e = .returned (.bool (rightC ep l)) ∧ Below u.heap.size u w') := hid (fun u hu => cright_any ep a n cap l hn hm u (hI.keep hu (Nat.le_refl _)))
  clear hI
  rcases hs with hr | ⟨hr, h60 | h0⟩
  · rw [hr] at HR
    clear hr
    go_enter Try.func7, Try.ntmps7
    go_wp2_with (first
      | (go_at_call 9; refine (HL.out _).mono ?_; rintro e w1 ⟨rfl, hb1⟩; have H1 : Hid (CvAt w1 w.heap.size ep (.slice a n cap) ∧ Below w.heap.size w w1) := hid ⟨H0.out.1.keep hb1, H0.out.2.trans (hb1.mono H0.out.2.size)⟩; obtain ⟨x0, x1⟩ := H1.out.1.cells; clear hb1)
      | (go_at_call 27; refine (HR.out _ H1.out.2).mono ?_; rintro e w2 ⟨rfl, hb2⟩; have H2 : Hid (CvAt w2 w.heap.size ep (.slice a n cap) ∧ Below w.heap.size w w2) := hid ⟨H1.out.1.keep hb2, H1.out.2.trans (hb2.mono H1.out.2.size)⟩; clear hb2 x0 x1; obtain ⟨x0, x1⟩ := H2.out.1.cells))
    go_ret
    exact ⟨rfl, H2.out.2⟩
  · rw [hr] at HR
    clear hr
    go_enter Try.func7, Try.ntmps7
    go_wp2_with (first
      | (go_at_call 9; refine (HL.out _).mono ?_; rintro e w1 ⟨rfl, hb1⟩; have H1 : Hid (CvAt w1 w.heap.size ep (.slice a n cap) ∧ Below w.heap.size w w1) := hid ⟨H0.out.1.keep hb1, H0.out.2.trans (hb1.mono H0.out.2.size)⟩; obtain ⟨x0, x1⟩ := H1.out.1.cells; clear hb1)
      | (go_at_call 27; refine (HR.out _ H1.out.2).mono ?_; rintro e w2 ⟨rfl, hb2⟩; have H2 : Hid (CvAt w2 w.heap.size ep (.slice a n cap) ∧ Below w.heap.size w w2) := hid ⟨H1.out.1.keep hb2, H1.out.2.trans (hb2.mono H1.out.2.size)⟩; clear hb2 x0 x1; obtain ⟨x0, x1⟩ := H2.out.1.cells))
    go_ret
    exact ⟨rfl, H2.out.2⟩
  · have hte : t.toList.isEmpty = true := by rw [text_none, decide_eq_false h0]; rfl
    rw [hr] at HR
    clear hr h0
    by_cases h60 : 60 ≤ ep
    · clear hte
      go_enter Try.func7, Try.ntmps7
      go_wp2_with (first
        | (go_at_call 9; refine (HL.out _).mono ?_; rintro e w1 ⟨rfl, hb1⟩; have H1 : Hid (CvAt w1 w.heap.size ep (.slice a n cap) ∧ Below w.heap.size w w1) := hid ⟨H0.out.1.keep hb1, H0.out.2.trans (hb1.mono H0.out.2.size)⟩; obtain ⟨x0, x1⟩ := H1.out.1.cells; clear hb1)
        | (go_at_call 27; refine (HR.out _ H1.out.2).mono ?_; rintro e w2 ⟨rfl, hb2⟩; have H2 : Hid (CvAt w2 w.heap.size ep (.slice a n cap) ∧ Below w.heap.size w w2) := hid ⟨H1.out.1.keep hb2, H1.out.2.trans (hb2.mono H1.out.2.size)⟩; clear hb2 x0 x1; obtain ⟨x0, x1⟩ := H2.out.1.cells))
      go_ret
      exact ⟨rfl, H2.out.2⟩
    · have h61 : ¬ (60 ≤ ep) := h60
      go_enter Try.func7, Try.ntmps7
      go_wp2_with (first
        | (go_at_call 9; refine (HL.out _).mono ?_; rintro e w1 ⟨rfl, hb1⟩; have H1 : Hid (CvAt w1 w.heap.size ep (.slice a n cap) ∧ Below w.heap.size w w1) := hid ⟨H0.out.1.keep hb1, H0.out.2.trans (hb1.mono H0.out.2.size)⟩; obtain ⟨x0, x1⟩ := H1.out.1.cells; clear hb1)
        | (go_at_call 27; refine (HR.out _ H1.out.2).mono ?_; rintro e w2 ⟨rfl, hb2⟩; have H2 : Hid (CvAt w2 w.heap.size ep (.slice a n cap) ∧ Below w.heap.size w w2) := hid ⟨H1.out.1.keep hb2, H1.out.2.trans (hb2.mono H1.out.2.size)⟩; clear hb2 x0 x1; obtain ⟨x0, x1⟩ := H2.out.1.cells))
      go_ret
      exact ⟨rfl, H2.out.2⟩
set_option maxRecDepth 100000 in
set_option maxHeartbeats 12800000 in
theorem venough_go (ep : Int) (a : Option Addr) (n cap : Nat) (l : List Int) (hn : l.length = n) (t : ByteArray) (ht : t.size + 1 ≤ 140737488355328) (o : Option Addr) (no co : Nat) (os : List Int) (hno : os.length = no) (hmo : no ≤ maxLen) (hr : rightC ep l = true) (h60 : ep < 60) (h0 : 0 < t.size) (w : World) (hI : IntsIn w a l) (hO : IntsIn w o os) :
    Calls Try.prog 7 #[.agg #[.int .i64 ep, .slice a n cap], .string t, .slice o no co] w fun e w' => e = .returned (.bool true) ∧ Below w.heap.size w w' := by
  obtain ⟨i0, hi0, hz0, hz1, hz2⟩ := info_parts Try.info3
  have hml := mem_len (rightC_ep hr).2
  have hr1 : rightC (ep + 1) l = true := by
    have h1 := rightC_ep hr
    rw [rightC, h1.2, decide_eq_true (by omega)]
    rfl
  obtain ⟨C, eC⟩ : ∃ C, C = textC (ep + 1) l := ⟨_, rfl⟩
  obtain ⟨q, eq⟩ : ∃ q, q = quoZ (n : Int) := ⟨_, rfl⟩
  have HP := hid (And.intro ht (And.intro h0 (And.intro hr1 (And.intro eC (And.intro hml (And.intro hn (And.intro eq hr)))))))
  have HL : Hid (∀ u : World, Calls Try.prog 9 #[] u fun e w' => e = .returned (.bool true) ∧ Below u.heap.size u w') := hid ulives_any
  have H0 : Hid (CvAt (w.alloc (.cells #[.int .i64 ep, .slice a n cap] 24)) w.heap.size ep (.slice a n cap) ∧ Below w.heap.size w (w.alloc (.cells #[.int .i64 ep, .slice a n cap] 24))) := hid ⟨heap_alloc_last w _, (Below.refl _ _).alloc (Nat.le_refl _) _⟩
  have HR : Hid (∀ u : World, Below w.heap.size w u → Calls Try.prog 27 #[.agg #[.int .i64 ep, .slice a n cap]] u fun e w' => e = .returned (.bool true) ∧ Below u.heap.size u w') := hid (fun u hu => by rw [← hr]; exact cright_any ep a n cap l hn (by unfold maxLen; omega) u (hI.keep hu (Nat.le_refl _)))
  have HN : Hid (∀ u : World, Below w.heap.size w u → Calls Try.prog 12 #[.agg #[.int .i64 ep, .slice a n cap]] u fun e w' => ∃ g F, e = .returned (.tuple #[.pointer (some ⟨g, 0, none⟩), .int .i64 0]) ∧ TlAt F w' (.pointer (some ⟨g, 0, none⟩)) ⟨ep, l, []⟩ ∧ (∀ b, b ∈ F → u.heap.size ≤ b) ∧ Below u.heap.size u w') := hid (fun u hu => vnew_yes ep a n cap l hn u (hI.keep hu (Nat.le_refl _)) hr)
  have HQ : Hid (∀ u : World, Calls Try.prog 28 #[.int .i64 (n : Int)] u fun e w' => e = .returned (.int .i64 q) ∧ Below u.heap.size u w') := hid (fun u => by rw [eq]; exact cquorum_any _ (by omega) u)
  have hte : t.toList.isEmpty = false := by rw [text_none, decide_eq_true h0]; rfl
  have hmo3 : (no : Int) ≤ 9223372036854775807 := by unfold maxLen at hmo; omega
  have h61 : ¬ (60 ≤ ep) := by omega
  have HI := hid (And.intro hI (And.intro hO hno))
  clear hI hO hml hr1 eC eq hr h60 h0 hno hmo
  go_enter Try.func7, Try.ntmps7
  go_wp2_with (first
    | (go_at_call 9; refine (HL.out _).mono ?_; rintro e w1 ⟨rfl, hb1⟩; have H1 : Hid (CvAt w1 w.heap.size ep (.slice a n cap) ∧ Below w.heap.size w w1) := hid ⟨H0.out.1.keep hb1, H0.out.2.trans (hb1.mono H0.out.2.size)⟩; obtain ⟨x0, x1⟩ := H1.out.1.cells; clear hb1)
    | (go_at_call 27; refine (HR.out _ H1.out.2).mono ?_; rintro e w2 ⟨rfl, hb2⟩; have H2 : Hid (CvAt w2 w.heap.size ep (.slice a n cap) ∧ Below w.heap.size w w2) := hid ⟨H1.out.1.keep hb2, H1.out.2.trans (hb2.mono H1.out.2.size)⟩; clear hb2 x0 x1; obtain ⟨x0, x1⟩ := H2.out.1.cells)
    | (go_at_call 12; refine (HN.out _ H2.out.2).mono ?_; rintro e w3 ⟨g, F, rfl, ht3, hf3, hb3⟩; have H3 : Hid (CvAt w3 w.heap.size ep (.slice a n cap) ∧ Below w.heap.size w w3 ∧ TlAt F w3 (.pointer (some ⟨g, 0, none⟩)) ⟨ep, l, []⟩ ∧ ∀ b, b ∈ F → w.heap.size < b) := hid ⟨H2.out.1.keep hb3, H2.out.2.trans (hb3.mono H2.out.2.size), ht3, fun b hb => Nat.lt_of_lt_of_le (lt_of_blk H2.out.1) (hf3 b hb)⟩; clear hb3 ht3 hf3 x0 x1; obtain ⟨x0, x1⟩ := H3.out.1.cells)
    | (go_at_call 28; refine (HQ.out _).mono ?_; rintro e w4 ⟨rfl, hb4⟩; have H4 : Hid (EnSt w w4 w4.heap.size F (.pointer (some ⟨g, 0, none⟩)) ⟨ep, l, []⟩ ep (.slice a n cap) (.slice none 0 0)) := hid ⟨World.ownsRow_nil _ _ _ _, H3.out.2.2.1.keep hb4, H3.out.1.keep hb4, H3.out.2.1.trans (hb4.mono H3.out.2.1.size), fun b hb => ⟨H3.out.2.2.2 b hb, Nat.lt_of_lt_of_le (H3.out.2.2.1.lt b hb) hb4.size⟩, Nat.le_refl _⟩; clear hb4 x0 x1))
  simp only [decide_eq_false (show ¬ (60 ≤ ep) by omega)]
  clear h61 hte
  generalize w4.heap.size = B at H4
  go_loopw [10, 11, 12] (fun c u i wr => ∃ (j : Nat) (s : Ta), j ≤ no ∧ i = .int .i64 (j : Int) ∧ c = .int .i64 (cntB s.vs (t, C) : Int) ∧ EnSt w wr B F (.pointer (some ⟨g, 0, none⟩)) s ep (.slice a n cap) u ∧ EnIn ep l t C s) (fun _ _ i _ => ((no : Int) - intOf i).toNat)
  case atStart => exact ⟨0, ⟨ep, l, []⟩, by omega, rfl, rfl, H4.out, TOk.new HP.out.2.2.2.2.2.2.2, rfl, rfl, fun v hv => by simp at hv⟩
  case round =>
    obtain ⟨j, s, hj, rfl, rfl, hst, hin⟩ := hrel
    by_cases hjn : j = no
    · have hj1 : ¬ ((j : Int) < (no : Int)) := by omega
      have HS := hid hst
      clear hst hin hj hjn
      go_wp2
      go_ret
      exact ⟨rfl, HS.out.bel⟩
    · have hj1 : (j : Int) < (no : Int) := by omega
      obtain ⟨au, cu, eu, _⟩ := own_len hst.own
      subst eu
      have hj0 : (0 : Int) ≤ (j : Int) := Int.natCast_nonneg _
      have hjl : j < os.length := by have := HI.out.2.2; omega
      obtain ⟨ga, off, rfl, hga, hcell⟩ := HI.out.2.1.at j _ (getD_some hjl)
      obtain ⟨f, ef⟩ : ∃ f, f = os.getD j 0 := ⟨_, rfl⟩
      rw [← ef] at hcell
      have HS := hid (And.intro hst hin)
      have HC : Hid (∀ ww : World, Below w.heap.size w ww → ww.cell? ⟨ga, off + j, none⟩ = some (.int .i64 f)) := hid (fun ww hw => (hw.cell (p := ⟨ga, off + j, none⟩) hga).trans hcell)
      have HJ := hid (And.intro hj hjn)
      clear hst hin hj hjn hjl hcell hga ef
      go_wp2
      have HSd : Hid (EnSt w wr.drew B F (.pointer (some ⟨g, 0, none⟩)) s ep (.slice a n cap) (Value.slice au s.vs.length cu) ∧ EnIn ep l t C s) := hid ⟨HS.out.1.keep (Below.refl _ _).drew, HS.out.2⟩
      refine wp_region_G (S := fun ww => Below w.heap.size w ww ∧ CvAt ww w.heap.size ep (.slice a n cap)) (ex := [9]) (by kernel_rfl) ?_
      try (change wpAnyG _ _ _ _ _ _ _ _ _ (World.drew _))
      refine wpAnyG_take (i := 0) (v := ?v1) rfl (by kernel_rfl) (fun _ _ _ h => h) (Or.inl ⟨by rfl, ?hy1⟩) ⟨HSd.out.1.bel, HSd.out.1.cf⟩ ?rest1
      case hy1 => (intro ww _; go_simp; try with_reducible rfl)
      go_simp
      refine wpAnyG_take (i := 1) (v := ?v2) rfl (by kernel_rfl) (fun _ _ _ h => h) (Or.inl ⟨by rfl, ?hy2⟩) ⟨HSd.out.1.bel, HSd.out.1.cf⟩ ?rest2
      case hy2 => (intro ww _; go_simp; try with_reducible rfl)
      go_simp
      refine wpAnyG_take (i := 2) (v := ?v3) rfl (by kernel_rfl) (fun _ _ _ h => h) (Or.inl ⟨by rfl, ?hy3⟩) ⟨HSd.out.1.bel, HSd.out.1.cf⟩ ?rest3
      case hy3 => (intro ww _; go_simp; try with_reducible rfl)
      go_simp
      refine wpAnyG_take (i := 3) (v := ?v4) rfl (by kernel_rfl) (fun _ _ _ h => h) (Or.inl ⟨by rfl, ?hy4⟩) ⟨HSd.out.1.bel, HSd.out.1.cf⟩ ?rest4
      case hy4 => (intro ww hS; have y0 := HC.out ww hS.1; obtain ⟨y1, y2⟩ := hS.2.cells; go_simp; try with_reducible rfl)
      go_simp
      refine wpAnyG_take (i := 4) (v := ?v5) rfl (by kernel_rfl) (fun _ _ _ h => h) (Or.inl ⟨by rfl, ?hy5⟩) ⟨HSd.out.1.bel, HSd.out.1.cf⟩ ?rest5
      case hy5 => (intro ww _; go_simp; try with_reducible rfl)
      go_simp
      refine wpAnyG_take (i := 5) (v := ?v6) rfl (by kernel_rfl) (fun _ _ _ h => h) (Or.inl ⟨by rfl, ?hy6⟩) ⟨HSd.out.1.bel, HSd.out.1.cf⟩ ?rest6
      case hy6 => (intro ww _; go_simp; try with_reducible rfl)
      go_simp
      refine wpAnyG_take (i := 6) (v := ?v7) rfl (by kernel_rfl) (fun _ _ _ h => h) (Or.inl ⟨by rfl, ?hy7⟩) ⟨HSd.out.1.bel, HSd.out.1.cf⟩ ?rest7
      case hy7 => (intro ww hS; have y0 := HC.out ww hS.1; obtain ⟨y1, y2⟩ := hS.2.cells; go_simp; try with_reducible rfl)
      go_simp
      refine wpAnyG_take (i := 7) (v := ?v8) rfl (by kernel_rfl) (fun _ _ _ h => h) (Or.inl ⟨by rfl, ?hy8⟩) ⟨HSd.out.1.bel, HSd.out.1.cf⟩ ?rest8
      case hy8 => (intro ww _; go_simp; try with_reducible rfl)
      go_simp
      refine wpAnyG_all (rs := [8]) (by kernel_rfl) (by simp) ?_
      intro i hi
      obtain rfl := List.mem_singleton.1 hi
      clear hi
      refine wpOp_v rfl (by rfl) (fun K hK => ?_)
      go_simp
      have H8 : Hid (EnSt w (wr.alloc (.cells #[.int .i64 0, .string ⟨#[]⟩, .slice none 0 0, .int .i64 0] 38)).drew B F (.pointer (some ⟨g, 0, none⟩)) s ep (.slice a n cap) (Value.slice au s.vs.length cu)) := hid (HS.out.1.keep (((Below.refl _ _).alloc (Nat.le_refl _) _).drew))
      refine hK _ _ ⟨fun _ => ⟨H8.out.bel, H8.out.cf⟩, ?_⟩
      clear hK K
      go_simp
      refine wpAnyG_all (rs := [9]) (by kernel_rfl) (by simp) ?_
      intro i hi
      obtain rfl := List.mem_singleton.1 hi
      clear hi
      refine wpOp_v rfl (by rfl) (fun K hK => ?_)
      go_simp
      refine hK _ _ ⟨fun h => absurd (by simp) h, ?_⟩
      clear hK K
      go_simp
      refine wpAnyG_done (by kernel_rfl) ?_ _
      go_simp
      obtain ⟨wz, ez⟩ : ∃ wz, wz = (wr.alloc (.cells #[.int .i64 f, .string t, .slice a n cap, .int .i64 0] 38)).drew := ⟨_, rfl⟩
      have hbz : Below wr.heap.size wr wz := by rw [ez]; exact ((Below.refl _ _).alloc (Nat.le_refl _) _).drew
      have HZ : Hid (VwAt wz wr.heap.size f t (.slice a n cap) 0 ∧ EnSt w wz B F (.pointer (some ⟨g, 0, none⟩)) s ep (.slice a n cap) (Value.slice au s.vs.length cu) ∧ EnIn ep l t C s ∧ B ≤ wr.heap.size ∧ (∀ k, (Value.slice au s.vs.length cu).ownBlock = some k → k < wr.heap.size) ∧ w.heap.size < wr.heap.size) := hid ⟨by rw [ez]; exact heap_alloc_last wr _, HS.out.1.keep hbz, HS.out.2, HS.out.1.le, fun k hk => (HS.out.1.own.lt k hk).2, lt_of_blk HS.out.1.cf⟩
      rw [← ez]
      clear ez hbz HS HSd H8
      generalize wr.heap.size = p at HZ ⊢
      have HPB : Hid (B ≤ p) := hid HZ.out.2.2.2.1
      have HIo : Hid (EnIn ep l t C s) := hid HZ.out.2.2.1
      by_cases hmod : j % 4 = 3
      · by_cases hfr : f ∈ l ∧ voted s.vs f = false
        · have hm1 : (j : Int).tmod 4 = 3 := by rw [Int.tmod_eq_emod_of_nonneg (by omega)]; omega
          have z1 := HZ.out.1.cells.2.1
          have fz := free_at HZ.out.1 1
          go_wp2
          obtain ⟨wq, eq⟩ : ∃ wq, wq = wz.setCell ⟨p, 1, none⟩ (.string (t ++ qmark)) := ⟨_, rfl⟩
          have HW : Hid (VwAt wq p f (t ++ qmark) (.slice a n cap) 0 ∧ EnSt w wq B F (.pointer (some ⟨g, 0, none⟩)) s ep (.slice a n cap) (Value.slice au s.vs.length cu)) := hid ⟨by rw [eq]; exact (blk_set HZ.out.1 1 _).trans (by simp), by rw [eq]; exact HZ.out.2.1.setp p 1 _ HZ.out.2.2.2.1 HZ.out.2.2.2.2.1 HZ.out.2.2.2.2.2⟩
          change Code.wp Try.prog _ _ _ (wz.setCell ⟨p, 1, none⟩ (.string (t ++ qmark)))
          rw [← eq]
          clear eq z1 fz
          have hTA : tA t j = (t ++ qmark) := by rw [tA, if_pos hmod]
          obtain ⟨hvB, hvC, hyes, hnot⟩ := HZ.out.2.2.1.add j f HP.out.1 HP.out.2.1 HP.out.2.2.1 HP.out.2.2.2.1
          rw [hTA] at hvB hvC hyes hnot
          have hTs : (t ++ qmark).size ≤ 140737488355328 := by have := tA_size t j; rw [hTA] at this; have := HP.out.1; omega
          have HG : Hid (∀ u : World, Below w.heap.size w u → Calls Try.prog 14 #[.agg #[.int .i64 f, .string (t ++ qmark), .slice a n cap, .int .i64 0], .agg #[.int .i64 ep, .slice a n cap]] u fun e w' => ∃ ad cd, e = .returned (.slice ad 2 cd) ∧ PairsIn w' ad (sgOf f (voS ep l (t ++ qmark) l) C 0) ∧ Below u.heap.size u w') := hid (fun u hu => by
            have hmx : n ≤ maxLen := by have := HP.out.2.2.2.2.1; have := HP.out.2.2.2.2.2.1; unfold maxLen; omega
            have := usigs_any f (t ++ qmark) hTs a n cap l HP.out.2.2.2.2.2.1 hmx 0 ep a n cap l HP.out.2.2.2.2.2.1 hmx u (HI.out.1.keep hu (Nat.le_refl _)) (HI.out.1.keep hu (Nat.le_refl _))
            rw [hvC] at this
            exact this.mono fun e w' ⟨ad, cd, k1, k2, k3⟩ => ⟨ad, cd, k1, k2.1, k3⟩)
          have HIn : Hid (EnIn ep l t C ⟨ep, l, s.vs ++ [(f, ((t ++ qmark), C))]⟩) := hid (by have := HZ.out.2.2.1.next j f HP.out.1 HP.out.2.1 HP.out.2.2.1 HP.out.2.2.2.1 hfr; rwa [hTA] at this)
          have HAd : Hid (∀ (u : World) (ad : Option Addr) (cd : Nat), Below w.heap.size w u → TlAt F u (.pointer (some ⟨g, 0, none⟩)) s → PairsIn u ad (sgOf f (voS ep l (t ++ qmark) l) C 0) → Calls Try.prog 15 #[.pointer (some ⟨g, 0, none⟩), .int .i64 f, .string (t ++ qmark), .slice a n cap, .slice ad 2 cd] u fun e w' => e = .returned (.int .i64 0) ∧ TlAt F w' (.pointer (some ⟨g, 0, none⟩)) ⟨ep, l, s.vs ++ [(f, ((t ++ qmark), C))]⟩ ∧ Out F u w') := hid (fun u ad cd hu ht hp => by
            have hmx : n ≤ maxLen := by have := HP.out.2.2.2.2.1; have := HP.out.2.2.2.2.2.1; unfold maxLen; omega
            have := vadd_at F _ s f (t ++ qmark) hTs a n cap l HP.out.2.2.2.2.2.1 hmx ad 2 cd (sgOf f (voS ep l (t ++ qmark) l) C 0) rfl (by decide) u ht (HI.out.1.keep hu (Nat.le_refl _)) hp
            rwa [(hyes hfr).1, (hyes hfr).2] at this)
          clear hvB hvC hyes hnot hTs hTA HZ
          generalize sgOf f (voS ep l (t ++ qmark) l) C 0 = SG at HG HAd
          have HWd : Hid (VwAt wq.drew p f (t ++ qmark) (.slice a n cap) 0 ∧ EnSt w wq.drew B F (.pointer (some ⟨g, 0, none⟩)) s ep (.slice a n cap) (Value.slice au s.vs.length cu)) := hid ⟨HW.out.1, HW.out.2.keep (Below.refl _ _).drew⟩
          refine wp_region_G (S := fun ww => VwAt ww p f (t ++ qmark) (.slice a n cap) 0 ∧ CvAt ww w.heap.size ep (.slice a n cap)) (ex := []) (by kernel_rfl) ?_
          try (change wpAnyG _ _ _ _ _ _ _ _ _ (World.drew _))
          refine wpAnyG_take (i := 0) (v := ?v101) rfl (by kernel_rfl) (fun _ _ _ h => h) (Or.inl ⟨by rfl, ?hy101⟩) ⟨HWd.out.1, HWd.out.2.cf⟩ ?rest101
          case hy101 => (intro ww _; go_simp; try with_reducible rfl)
          go_simp
          refine wpAnyG_take (i := 1) (v := ?v102) rfl (by kernel_rfl) (fun _ _ _ h => h) (Or.inl ⟨by rfl, ?hy102⟩) ⟨HWd.out.1, HWd.out.2.cf⟩ ?rest102
          case hy102 => (intro ww _; go_simp; try with_reducible rfl)
          go_simp
          refine wpAnyG_take (i := 2) (v := ?v103) rfl (by kernel_rfl) (fun _ _ _ h => h) (Or.inl ⟨by rfl, ?hy103⟩) ⟨HWd.out.1, HWd.out.2.cf⟩ ?rest103
          case hy103 => (intro ww hS; obtain ⟨y0, y1, y2, y3⟩ := hS.1.cells; obtain ⟨y4, y5⟩ := hS.2.cells; go_simp; try with_reducible rfl)
          go_simp
          refine wpAnyG_take (i := 3) (v := ?v104) rfl (by kernel_rfl) (fun _ _ _ h => h) (Or.inl ⟨by rfl, ?hy104⟩) ⟨HWd.out.1, HWd.out.2.cf⟩ ?rest104
          case hy104 => (intro ww _; go_simp; try with_reducible rfl)
          go_simp
          refine wpAnyG_take (i := 4) (v := ?v105) rfl (by kernel_rfl) (fun _ _ _ h => h) (Or.inl ⟨by rfl, ?hy105⟩) ⟨HWd.out.1, HWd.out.2.cf⟩ ?rest105
          case hy105 => (intro ww hS; obtain ⟨y0, y1, y2, y3⟩ := hS.1.cells; obtain ⟨y4, y5⟩ := hS.2.cells; go_simp; try with_reducible rfl)
          go_simp
          refine wpAnyG_take (i := 5) (v := ?v106) rfl (by kernel_rfl) (fun _ _ _ h => h) (Or.inl ⟨by rfl, ?hy106⟩) ⟨HWd.out.1, HWd.out.2.cf⟩ ?rest106
          case hy106 => (intro ww _; go_simp; try with_reducible rfl)
          go_simp
          refine wpAnyG_take (i := 6) (v := ?v107) rfl (by kernel_rfl) (fun _ _ _ h => h) (Or.inl ⟨by rfl, ?hy107⟩) ⟨HWd.out.1, HWd.out.2.cf⟩ ?rest107
          case hy107 => (intro ww hS; obtain ⟨y0, y1, y2, y3⟩ := hS.1.cells; obtain ⟨y4, y5⟩ := hS.2.cells; go_simp; try with_reducible rfl)
          go_simp
          refine wpAnyG_take (i := 7) (v := ?v108) rfl (by kernel_rfl) (fun _ _ _ h => h) (Or.inl ⟨by rfl, ?hy108⟩) ⟨HWd.out.1, HWd.out.2.cf⟩ ?rest108
          case hy108 => (intro ww hS; obtain ⟨y0, y1, y2, y3⟩ := hS.1.cells; obtain ⟨y4, y5⟩ := hS.2.cells; go_simp; try with_reducible rfl)
          go_simp
          refine wpAnyG_take (i := 8) (v := ?v109) rfl (by kernel_rfl) (fun _ _ _ h => h) (Or.inl ⟨by rfl, ?hy109⟩) ⟨HWd.out.1, HWd.out.2.cf⟩ ?rest109
          case hy109 => (intro ww hS; obtain ⟨y0, y1, y2, y3⟩ := hS.1.cells; obtain ⟨y4, y5⟩ := hS.2.cells; go_simp; try with_reducible rfl)
          go_simp
          refine wpAnyG_all (rs := [9]) (by kernel_rfl) (by simp) ?_
          intro i hi
          obtain rfl := List.mem_singleton.1 hi
          clear hi
          refine wpOp_v rfl (by rfl) (fun K hK => ?_)
          go_simp
          refine (HG.out _ HWd.out.2.bel).mono ?_
          rintro e w5 ⟨ad5, cd5, rfl, hp5, hb5⟩
          have H5 : Hid (VwAt w5 p f (t ++ qmark) (.slice a n cap) 0 ∧ EnSt w w5 B F (.pointer (some ⟨g, 0, none⟩)) s ep (.slice a n cap) (Value.slice au s.vs.length cu) ∧ PairsIn w5 ad5 SG) := hid ⟨HWd.out.1.keep hb5, HWd.out.2.keep hb5, hp5⟩
          clear hp5 hb5
          refine hK _ _ ⟨fun _ => ⟨H5.out.1, H5.out.2.1.cf⟩, ?_⟩
          clear hK K
          go_simp
          refine wpAnyG_all (rs := [10]) (by kernel_rfl) (by simp) ?_
          intro i hi
          obtain rfl := List.mem_singleton.1 hi
          clear hi
          refine wpOp_v rfl (by rfl) (fun K hK => ?_)
          go_simp
          refine (HAd.out _ _ _ H5.out.2.1.bel H5.out.2.1.tl H5.out.2.2).mono ?_
          rintro e w6 ⟨rfl, ht6, ho6⟩
          have H6 : Hid (VwAt w6 p f (t ++ qmark) (.slice a n cap) 0 ∧ EmSt w w6 B F (.pointer (some ⟨g, 0, none⟩)) s ⟨ep, l, s.vs ++ [(f, ((t ++ qmark), C))]⟩ ep (.slice a n cap) (Value.slice au s.vs.length cu)) := hid ⟨(ho6.block _ (lt_of_blk H5.out.1) (fun hm => by have h1 := (H5.out.2.1.far _ hm).2; have h2 := HPB.out; omega)).trans H5.out.1, H5.out.2.1.vote ho6 ht6⟩
          clear ht6 ho6
          refine hK _ _ ⟨fun _ => ⟨H6.out.1, H6.out.2.cf⟩, ?_⟩
          clear hK K
          go_simp
          refine wpAnyG_all (rs := [11]) (by kernel_rfl) (by simp) ?_
          intro i hi
          obtain rfl := List.mem_singleton.1 hi
          clear hi
          refine wpOp_v rfl (by rfl) (fun K hK => ?_)
          go_simp
          refine hK _ _ ⟨fun _ => ⟨H6.out.1, H6.out.2.cf⟩, ?_⟩
          clear hK K
          go_simp
          refine wpAnyG_done (by kernel_rfl) ?_ _
          go_simp
          have HW6 := H6
          have HWh : Hid (∀ u : World, EmSt w u B F (.pointer (some ⟨g, 0, none⟩)) s ⟨ep, l, s.vs ++ [(f, ((t ++ qmark), C))]⟩ ep (.slice a n cap) (Value.slice au s.vs.length cu) → Calls Try.prog 26 #[.slice au s.vs.length cu, .int .i64 f] u fun e w' => e = .returned (.int .i64 (-1)) ∧ Below u.heap.size u w') := hid (fun u hu => by
            have hmx : s.vs.length ≤ maxLen := by have := HIo.out.ok.len; have := HIo.out.ok.mlen; unfold maxLen; omega
            have := uwhere_any au _ cu (s.vs.map (·.1)) (List.length_map ..) hmx f u (own_intsV hu.own)
            rwa [whereI, if_neg (voted_false.1 hfr.2)] at this)
          have HHa : Hid (∀ u : World, Below w.heap.size w u → Calls Try.prog 24 #[.slice a n cap, .int .i64 f] u fun e w' => e = .returned (.bool true) ∧ Below u.heap.size u w') := hid (fun u hu => by
            have hmx : n ≤ maxLen := by have := HP.out.2.2.2.2.1; have := HP.out.2.2.2.2.2.1; unfold maxLen; omega
            have := vhas_any a n cap l HP.out.2.2.2.2.2.1 hmx f u (HI.out.1.keep hu (Nat.le_refl _))
            rw [show hasM l f = true from decide_eq_true hfr.1] at this
            exact this.mono fun e w' ⟨k1, k2⟩ => ⟨k1, k2 ▸ Below.refl _ _⟩)
          have x2 := HW6.out.1.cells.1
          obtain ⟨x3, x4⟩ := HW6.out.2.cf.cells
          obtain ⟨N, eN⟩ : ∃ N, N = cntB (s.vs ++ [(f, ((t ++ qmark), C))]) (t, C) := ⟨_, rfl⟩
          obtain ⟨M, eM⟩ : ∃ M, M = cntB (s.vs ++ [(f, ((t ++ qmark), C))]) (t ++ qmark, C) := ⟨_, rfl⟩
          obtain ⟨L, eL⟩ : ∃ L, L = (s.vs ++ [(f, ((t ++ qmark), C))]).length := ⟨_, rfl⟩
          have hsum : N + M = L := by rw [eN, eM, eL]; exact HIn.out.sum
          have hL10 : L ≤ 10 := by have h1 := HIn.out.ok.len; have h2 := HIn.out.ok.mlen; rw [eL]; exact Nat.le_trans h1 h2.2
          have hsub : IntKind.i64.wrap ((L : Int) - (N : Int)) = (M : Int) := by
            rw [show (L : Int) - (N : Int) = (M : Int) by omega]
            exact wrap_small (M : Int) (by omega) (by omega)
          have hqq : quoT ⟨ep, l, s.vs ++ [(f, ((t ++ qmark), C))]⟩ = q := by rw [quoT, HIn.out.mem, HP.out.2.2.2.2.2.1, HP.out.2.2.2.2.2.2.1]
          have HNum := hid (And.intro eN (And.intro eM (And.intro eL (And.intro hsum hL10))))
          have hal : cntB s.vs (t, C) = N := by rw [eN, cntB_add, if_neg (fun e => q_ne t C e.symm), Nat.add_zero]
          rw [hal]
          clear hal
          have hLs : s.vs.length + 1 = L := by rw [eL, List.length_append]; rfl
          have HLs := hid hLs
          have HQq := hid hqq
          clear eN eM eL hsum hqq hL10 hmod hLs
          by_cases h1 : q ≤ (N : Int)
          · have HSt : Hid (∀ u : World, TlAt F u (.pointer (some ⟨g, 0, none⟩)) ⟨ep, l, s.vs ++ [(f, ((t ++ qmark), C))]⟩ → Calls Try.prog 18 #[.pointer (some ⟨g, 0, none⟩)] u fun e w' => (∃ a1 c1 x2 a2 n2 c2 a3 n3 c3, e = .returned (.tuple #[.agg #[.string t, .slice a1 N c1, .int .i64 x2, .slice a2 n2 c2, .slice a3 n3 c3], .bool true])) ∧ Below u.heap.size u w') := hid (fun u hu => (vsettled_at F _ _ u hu).mono fun e w' ⟨r, k1, k2, k3⟩ => by
              obtain ⟨hc1, hc2⟩ := chB_eq HIn.out.ok (b := (t, C)) (by rw [HQq.out, ← HNum.out.1]; exact h1)
              rw [SetAns, if_pos hc1] at k2
              obtain ⟨a1, c1, a2, c2, a3, c3, k4, _⟩ := k2
              have hsg := signs_cnt HIn.out.ok (chB_not HIn.out.ok hc1) (setS ⟨ep, l, s.vs ++ [(f, ((t ++ qmark), C))]⟩)
              rw [hc2, ← HNum.out.1] at hsg
              rw [hc2, hsg] at k4
              exact ⟨⟨a1, c1, _, a2, _, c2, a3, _, c3, by rw [k1, k4]⟩, k3⟩)
            go_wp2_with (first
              | (go_at_call 26; go_must (refine (HWh.out _ HW6.out.2).mono ?_; rintro e w7 ⟨rfl, hb7⟩; have H7 : Hid (VwAt w7 p f (t ++ qmark) (.slice a n cap) 0 ∧ EmSt w w7 B F (.pointer (some ⟨g, 0, none⟩)) s ⟨ep, l, s.vs ++ [(f, ((t ++ qmark), C))]⟩ ep (.slice a n cap) (Value.slice au s.vs.length cu)) := hid ⟨HW6.out.1.keep hb7, HW6.out.2.keep hb7⟩; clear hb7 x2 x3 x4; have x2 := H7.out.1.cells.1; obtain ⟨x3, x4⟩ := H7.out.2.cf.cells))
              | (go_at_call 24; go_must (refine (HHa.out _ H7.out.2.bel).mono ?_; rintro e w8 ⟨rfl, hb8⟩; have H8 : Hid (VwAt w8 p f (t ++ qmark) (.slice a n cap) 0 ∧ EmSt w w8 B F (.pointer (some ⟨g, 0, none⟩)) s ⟨ep, l, s.vs ++ [(f, ((t ++ qmark), C))]⟩ ep (.slice a n cap) (Value.slice au s.vs.length cu)) := hid ⟨H7.out.1.keep hb8, H7.out.2.keep hb8⟩; clear hb8 x2 x3 x4; have x2 := H8.out.1.cells.1; obtain ⟨x3, x4⟩ := H8.out.2.cf.cells))
              | (at_builtin; refine wpList_append_own _ rfl _ _ 22 rfl B 3 i0 (.int .i64 0) 1 8 Try.underlying22 hi0 hz0 hz1 hz2 rfl (by decide) _ s.vs.length _ rfl (by exact (H8.out.2.own.alloc _)) ⟨_, 0, none⟩ 1 1 (iC [f]) rfl rfl (World.news_of_block (t := 3) (fr := (0, 0)) (heap_alloc_last _ _)) (iC_one _) (by have := HLs.out; have := HNum.out; unfold maxLen; omega) (by have := HLs.out; have := HNum.out; omega) (by have := H8.out.2.le; simp; omega) ?_; intro v9 w9 hown9 hgrow9 hnil9; have h9 : EnSt w w9 B F (.pointer (some ⟨g, 0, none⟩)) ⟨ep, l, s.vs ++ [(f, ((t ++ qmark), C))]⟩ ep (.slice a n cap) v9 := (H8.out.2.keep ((Below.refl _ _).alloc (Nat.le_refl _) _)).more hgrow9 (by rw [show (s.vs ++ [(f, ((t ++ qmark), C))]).length = s.vs.length + 1 by rw [List.length_append]; rfl, List.map_append, iC_app]; exact hown9); obtain ⟨a9, c9, e9, _⟩ := own_len h9.own; rw [← HNum.out.2.2.1] at e9; subst e9; have H9 := hid h9; clear hown9 hgrow9 hnil9 h9)
              | (go_at_call 18; go_must (refine (HSt.out _ H9.out.tl).mono ?_; rintro e w10 ⟨⟨a1, c1, x5, a2, n2, c2, a3, n3, c3, rfl⟩, hb10⟩; have H10 := hid (H9.out.keep hb10); clear hb10)))
            go_roundw
            case rel => exact ⟨j + 1, ⟨ep, l, s.vs ++ [(f, ((t ++ qmark), C))]⟩, by have := HJ.out; omega, by go_num, by rw [HNum.out.1], H10.out.keep ((Below.refl _ _).alloc (Nat.le_refl _) _), HIn.out⟩
            case measure => simp [intOf]; omega
          by_cases h2 : q ≤ (M : Int)
          · have HSt : Hid (∀ u : World, TlAt F u (.pointer (some ⟨g, 0, none⟩)) ⟨ep, l, s.vs ++ [(f, ((t ++ qmark), C))]⟩ → Calls Try.prog 18 #[.pointer (some ⟨g, 0, none⟩)] u fun e w' => (∃ x1 a1 n1 c1 x2 a2 n2 c2 a3 n3 c3, e = .returned (.tuple #[.agg #[.string x1, .slice a1 n1 c1, .int .i64 x2, .slice a2 n2 c2, .slice a3 n3 c3], .bool true])) ∧ Below u.heap.size u w') := hid (fun u hu => (vsettled_at F _ _ u hu).mono fun e w' ⟨r, k1, k2, k3⟩ => by
              obtain ⟨hc1, hc2⟩ := chB_eq HIn.out.ok (b := (t ++ qmark, C)) (by rw [HQq.out, ← HNum.out.2.1]; exact h2)
              rw [SetAns, if_pos hc1] at k2
              obtain ⟨a1, c1, a2, c2, a3, c3, k4, _⟩ := k2
              exact ⟨⟨_, a1, _, c1, _, a2, _, c2, a3, _, c3, by rw [k1, k4]⟩, k3⟩)
            go_wp2_with (first
              | (go_at_call 26; go_must (refine (HWh.out _ HW6.out.2).mono ?_; rintro e w7 ⟨rfl, hb7⟩; have H7 : Hid (VwAt w7 p f (t ++ qmark) (.slice a n cap) 0 ∧ EmSt w w7 B F (.pointer (some ⟨g, 0, none⟩)) s ⟨ep, l, s.vs ++ [(f, ((t ++ qmark), C))]⟩ ep (.slice a n cap) (Value.slice au s.vs.length cu)) := hid ⟨HW6.out.1.keep hb7, HW6.out.2.keep hb7⟩; clear hb7 x2 x3 x4; have x2 := H7.out.1.cells.1; obtain ⟨x3, x4⟩ := H7.out.2.cf.cells))
              | (go_at_call 24; go_must (refine (HHa.out _ H7.out.2.bel).mono ?_; rintro e w8 ⟨rfl, hb8⟩; have H8 : Hid (VwAt w8 p f (t ++ qmark) (.slice a n cap) 0 ∧ EmSt w w8 B F (.pointer (some ⟨g, 0, none⟩)) s ⟨ep, l, s.vs ++ [(f, ((t ++ qmark), C))]⟩ ep (.slice a n cap) (Value.slice au s.vs.length cu)) := hid ⟨H7.out.1.keep hb8, H7.out.2.keep hb8⟩; clear hb8 x2 x3 x4; have x2 := H8.out.1.cells.1; obtain ⟨x3, x4⟩ := H8.out.2.cf.cells))
              | (at_builtin; refine wpList_append_own _ rfl _ _ 22 rfl B 3 i0 (.int .i64 0) 1 8 Try.underlying22 hi0 hz0 hz1 hz2 rfl (by decide) _ s.vs.length _ rfl (by exact (H8.out.2.own.alloc _)) ⟨_, 0, none⟩ 1 1 (iC [f]) rfl rfl (World.news_of_block (t := 3) (fr := (0, 0)) (heap_alloc_last _ _)) (iC_one _) (by have := HLs.out; have := HNum.out; unfold maxLen; omega) (by have := HLs.out; have := HNum.out; omega) (by have := H8.out.2.le; simp; omega) ?_; intro v9 w9 hown9 hgrow9 hnil9; have h9 : EnSt w w9 B F (.pointer (some ⟨g, 0, none⟩)) ⟨ep, l, s.vs ++ [(f, ((t ++ qmark), C))]⟩ ep (.slice a n cap) v9 := (H8.out.2.keep ((Below.refl _ _).alloc (Nat.le_refl _) _)).more hgrow9 (by rw [show (s.vs ++ [(f, ((t ++ qmark), C))]).length = s.vs.length + 1 by rw [List.length_append]; rfl, List.map_append, iC_app]; exact hown9); obtain ⟨a9, c9, e9, _⟩ := own_len h9.own; rw [← HNum.out.2.2.1] at e9; subst e9; have H9 := hid h9; clear hown9 hgrow9 hnil9 h9)
              | (go_at_call 18; go_must (refine (HSt.out _ H9.out.tl).mono ?_; rintro e w10 ⟨⟨x4, a1, n1, c1, x5, a2, n2, c2, a3, n3, c3, rfl⟩, hb10⟩; have H10 := hid (H9.out.keep hb10); clear hb10)))
            go_roundw
            case rel => exact ⟨j + 1, ⟨ep, l, s.vs ++ [(f, ((t ++ qmark), C))]⟩, by have := HJ.out; omega, by go_num, by rw [HNum.out.1], H10.out.keep ((Below.refl _ _).alloc (Nat.le_refl _) _), HIn.out⟩
            case measure => simp [intOf]; omega
          have HSt : Hid (∀ u : World, TlAt F u (.pointer (some ⟨g, 0, none⟩)) ⟨ep, l, s.vs ++ [(f, ((t ++ qmark), C))]⟩ → Calls Try.prog 18 #[.pointer (some ⟨g, 0, none⟩)] u fun e w' => (e = .returned (.tuple #[.agg #[.string ⟨#[]⟩, .slice none 0 0, .int .i64 0, .slice none 0 0, .slice none 0 0], .bool false])) ∧ Below u.heap.size u w') := hid (fun u hu => (vsettled_at F _ _ u hu).mono fun e w' ⟨r, k1, k2, k3⟩ => by
            have hcf : chF ⟨ep, l, s.vs ++ [(f, ((t ++ qmark), C))]⟩ = false := by rw [HIn.out.ch, HQq.out, ← HNum.out.1, ← HNum.out.2.1, decide_eq_false h1, decide_eq_false h2]; rfl
            rw [SetAns, hcf] at k2
            exact ⟨by rw [k1, show r = NoSet from k2]; rfl, k3⟩)
          go_wp2_with (first
            | (go_at_call 26; go_must (refine (HWh.out _ HW6.out.2).mono ?_; rintro e w7 ⟨rfl, hb7⟩; have H7 : Hid (VwAt w7 p f (t ++ qmark) (.slice a n cap) 0 ∧ EmSt w w7 B F (.pointer (some ⟨g, 0, none⟩)) s ⟨ep, l, s.vs ++ [(f, ((t ++ qmark), C))]⟩ ep (.slice a n cap) (Value.slice au s.vs.length cu)) := hid ⟨HW6.out.1.keep hb7, HW6.out.2.keep hb7⟩; clear hb7 x2 x3 x4; have x2 := H7.out.1.cells.1; obtain ⟨x3, x4⟩ := H7.out.2.cf.cells))
            | (go_at_call 24; go_must (refine (HHa.out _ H7.out.2.bel).mono ?_; rintro e w8 ⟨rfl, hb8⟩; have H8 : Hid (VwAt w8 p f (t ++ qmark) (.slice a n cap) 0 ∧ EmSt w w8 B F (.pointer (some ⟨g, 0, none⟩)) s ⟨ep, l, s.vs ++ [(f, ((t ++ qmark), C))]⟩ ep (.slice a n cap) (Value.slice au s.vs.length cu)) := hid ⟨H7.out.1.keep hb8, H7.out.2.keep hb8⟩; clear hb8 x2 x3 x4; have x2 := H8.out.1.cells.1; obtain ⟨x3, x4⟩ := H8.out.2.cf.cells))
            | (at_builtin; refine wpList_append_own _ rfl _ _ 22 rfl B 3 i0 (.int .i64 0) 1 8 Try.underlying22 hi0 hz0 hz1 hz2 rfl (by decide) _ s.vs.length _ rfl (by exact (H8.out.2.own.alloc _)) ⟨_, 0, none⟩ 1 1 (iC [f]) rfl rfl (World.news_of_block (t := 3) (fr := (0, 0)) (heap_alloc_last _ _)) (iC_one _) (by have := HLs.out; have := HNum.out; unfold maxLen; omega) (by have := HLs.out; have := HNum.out; omega) (by have := H8.out.2.le; simp; omega) ?_; intro v9 w9 hown9 hgrow9 hnil9; have h9 : EnSt w w9 B F (.pointer (some ⟨g, 0, none⟩)) ⟨ep, l, s.vs ++ [(f, ((t ++ qmark), C))]⟩ ep (.slice a n cap) v9 := (H8.out.2.keep ((Below.refl _ _).alloc (Nat.le_refl _) _)).more hgrow9 (by rw [show (s.vs ++ [(f, ((t ++ qmark), C))]).length = s.vs.length + 1 by rw [List.length_append]; rfl, List.map_append, iC_app]; exact hown9); obtain ⟨a9, c9, e9, _⟩ := own_len h9.own; rw [← HNum.out.2.2.1] at e9; subst e9; have H9 := hid h9; clear hown9 hgrow9 hnil9 h9)
            | (go_at_call 18; go_must (refine (HSt.out _ H9.out.tl).mono ?_; rintro e w10 ⟨rfl, hb10⟩; have H10 := hid (H9.out.keep hb10); clear hb10)))
          go_roundw
          case rel => exact ⟨j + 1, ⟨ep, l, s.vs ++ [(f, ((t ++ qmark), C))]⟩, by have := HJ.out; omega, by go_num, by rw [HNum.out.1], H10.out.keep ((Below.refl _ _).alloc (Nat.le_refl _) _), HIn.out⟩
          case measure => simp [intOf]; omega
        · have hm1 : (j : Int).tmod 4 = 3 := by rw [Int.tmod_eq_emod_of_nonneg (by omega)]; omega
          have z1 := HZ.out.1.cells.2.1
          have fz := free_at HZ.out.1 1
          go_wp2
          obtain ⟨wq, eq⟩ : ∃ wq, wq = wz.setCell ⟨p, 1, none⟩ (.string (t ++ qmark)) := ⟨_, rfl⟩
          have HW : Hid (VwAt wq p f (t ++ qmark) (.slice a n cap) 0 ∧ EnSt w wq B F (.pointer (some ⟨g, 0, none⟩)) s ep (.slice a n cap) (Value.slice au s.vs.length cu)) := hid ⟨by rw [eq]; exact (blk_set HZ.out.1 1 _).trans (by simp), by rw [eq]; exact HZ.out.2.1.setp p 1 _ HZ.out.2.2.2.1 HZ.out.2.2.2.2.1 HZ.out.2.2.2.2.2⟩
          change Code.wp Try.prog _ _ _ (wz.setCell ⟨p, 1, none⟩ (.string (t ++ qmark)))
          rw [← eq]
          clear eq z1 fz
          have hTA : tA t j = (t ++ qmark) := by rw [tA, if_pos hmod]
          obtain ⟨hvB, hvC, hyes, hnot⟩ := HZ.out.2.2.1.add j f HP.out.1 HP.out.2.1 HP.out.2.2.1 HP.out.2.2.2.1
          rw [hTA] at hvB hvC hyes hnot
          have hTs : (t ++ qmark).size ≤ 140737488355328 := by have := tA_size t j; rw [hTA] at this; have := HP.out.1; omega
          have HG : Hid (∀ u : World, Below w.heap.size w u → Calls Try.prog 14 #[.agg #[.int .i64 f, .string (t ++ qmark), .slice a n cap, .int .i64 0], .agg #[.int .i64 ep, .slice a n cap]] u fun e w' => ∃ ad cd, e = .returned (.slice ad 2 cd) ∧ PairsIn w' ad (sgOf f (voS ep l (t ++ qmark) l) C 0) ∧ Below u.heap.size u w') := hid (fun u hu => by
            have hmx : n ≤ maxLen := by have := HP.out.2.2.2.2.1; have := HP.out.2.2.2.2.2.1; unfold maxLen; omega
            have := usigs_any f (t ++ qmark) hTs a n cap l HP.out.2.2.2.2.2.1 hmx 0 ep a n cap l HP.out.2.2.2.2.2.1 hmx u (HI.out.1.keep hu (Nat.le_refl _)) (HI.out.1.keep hu (Nat.le_refl _))
            rw [hvC] at this
            exact this.mono fun e w' ⟨ad, cd, k1, k2, k3⟩ => ⟨ad, cd, k1, k2.1, k3⟩)
          obtain ⟨hne, hsame⟩ := hnot hfr
          have HIn : Hid (EnIn ep l t C s) := hid HZ.out.2.2.1
          have HAd0 : Hid (∀ (u : World) (ad : Option Addr) (cd : Nat), Below w.heap.size w u → TlAt F u (.pointer (some ⟨g, 0, none⟩)) s → PairsIn u ad (sgOf f (voS ep l (t ++ qmark) l) C 0) → Calls Try.prog 15 #[.pointer (some ⟨g, 0, none⟩), .int .i64 f, .string (t ++ qmark), .slice a n cap, .slice ad 2 cd] u fun e w' => e = .returned (.int .i64 (addE s f (t ++ qmark) l (sgOf f (voS ep l (t ++ qmark) l) C 0))) ∧ TlAt F w' (.pointer (some ⟨g, 0, none⟩)) s ∧ Out F u w') := hid (fun u ad cd hu ht hp => by
            have hmx : n ≤ maxLen := by have := HP.out.2.2.2.2.1; have := HP.out.2.2.2.2.2.1; unfold maxLen; omega
            have := vadd_at F _ s f (t ++ qmark) hTs a n cap l HP.out.2.2.2.2.2.1 hmx ad 2 cd (sgOf f (voS ep l (t ++ qmark) l) C 0) rfl (by decide) u ht (HI.out.1.keep hu (Nat.le_refl _)) hp
            rwa [hsame] at this)
          obtain ⟨E, hE⟩ : ∃ E, E = addE s f (t ++ qmark) l (sgOf f (voS ep l (t ++ qmark) l) C 0) := ⟨_, rfl⟩
          rw [← hE] at hne
          have HAd := HAd0
          rw [← hE] at HAd
          clear hE HAd0 hsame
          clear hvB hvC hyes hnot hTs hTA HZ
          generalize sgOf f (voS ep l (t ++ qmark) l) C 0 = SG at HG HAd
          have HWd : Hid (VwAt wq.drew p f (t ++ qmark) (.slice a n cap) 0 ∧ EnSt w wq.drew B F (.pointer (some ⟨g, 0, none⟩)) s ep (.slice a n cap) (Value.slice au s.vs.length cu)) := hid ⟨HW.out.1, HW.out.2.keep (Below.refl _ _).drew⟩
          refine wp_region_G (S := fun ww => VwAt ww p f (t ++ qmark) (.slice a n cap) 0 ∧ CvAt ww w.heap.size ep (.slice a n cap)) (ex := []) (by kernel_rfl) ?_
          try (change wpAnyG _ _ _ _ _ _ _ _ _ (World.drew _))
          refine wpAnyG_take (i := 0) (v := ?v141) rfl (by kernel_rfl) (fun _ _ _ h => h) (Or.inl ⟨by rfl, ?hy141⟩) ⟨HWd.out.1, HWd.out.2.cf⟩ ?rest141
          case hy141 => (intro ww _; go_simp; try with_reducible rfl)
          go_simp
          refine wpAnyG_take (i := 1) (v := ?v142) rfl (by kernel_rfl) (fun _ _ _ h => h) (Or.inl ⟨by rfl, ?hy142⟩) ⟨HWd.out.1, HWd.out.2.cf⟩ ?rest142
          case hy142 => (intro ww _; go_simp; try with_reducible rfl)
          go_simp
          refine wpAnyG_take (i := 2) (v := ?v143) rfl (by kernel_rfl) (fun _ _ _ h => h) (Or.inl ⟨by rfl, ?hy143⟩) ⟨HWd.out.1, HWd.out.2.cf⟩ ?rest143
          case hy143 => (intro ww hS; obtain ⟨y0, y1, y2, y3⟩ := hS.1.cells; obtain ⟨y4, y5⟩ := hS.2.cells; go_simp; try with_reducible rfl)
          go_simp
          refine wpAnyG_take (i := 3) (v := ?v144) rfl (by kernel_rfl) (fun _ _ _ h => h) (Or.inl ⟨by rfl, ?hy144⟩) ⟨HWd.out.1, HWd.out.2.cf⟩ ?rest144
          case hy144 => (intro ww _; go_simp; try with_reducible rfl)
          go_simp
          refine wpAnyG_take (i := 4) (v := ?v145) rfl (by kernel_rfl) (fun _ _ _ h => h) (Or.inl ⟨by rfl, ?hy145⟩) ⟨HWd.out.1, HWd.out.2.cf⟩ ?rest145
          case hy145 => (intro ww hS; obtain ⟨y0, y1, y2, y3⟩ := hS.1.cells; obtain ⟨y4, y5⟩ := hS.2.cells; go_simp; try with_reducible rfl)
          go_simp
          refine wpAnyG_take (i := 5) (v := ?v146) rfl (by kernel_rfl) (fun _ _ _ h => h) (Or.inl ⟨by rfl, ?hy146⟩) ⟨HWd.out.1, HWd.out.2.cf⟩ ?rest146
          case hy146 => (intro ww _; go_simp; try with_reducible rfl)
          go_simp
          refine wpAnyG_take (i := 6) (v := ?v147) rfl (by kernel_rfl) (fun _ _ _ h => h) (Or.inl ⟨by rfl, ?hy147⟩) ⟨HWd.out.1, HWd.out.2.cf⟩ ?rest147
          case hy147 => (intro ww hS; obtain ⟨y0, y1, y2, y3⟩ := hS.1.cells; obtain ⟨y4, y5⟩ := hS.2.cells; go_simp; try with_reducible rfl)
          go_simp
          refine wpAnyG_take (i := 7) (v := ?v148) rfl (by kernel_rfl) (fun _ _ _ h => h) (Or.inl ⟨by rfl, ?hy148⟩) ⟨HWd.out.1, HWd.out.2.cf⟩ ?rest148
          case hy148 => (intro ww hS; obtain ⟨y0, y1, y2, y3⟩ := hS.1.cells; obtain ⟨y4, y5⟩ := hS.2.cells; go_simp; try with_reducible rfl)
          go_simp
          refine wpAnyG_take (i := 8) (v := ?v149) rfl (by kernel_rfl) (fun _ _ _ h => h) (Or.inl ⟨by rfl, ?hy149⟩) ⟨HWd.out.1, HWd.out.2.cf⟩ ?rest149
          case hy149 => (intro ww hS; obtain ⟨y0, y1, y2, y3⟩ := hS.1.cells; obtain ⟨y4, y5⟩ := hS.2.cells; go_simp; try with_reducible rfl)
          go_simp
          refine wpAnyG_all (rs := [9]) (by kernel_rfl) (by simp) ?_
          intro i hi
          obtain rfl := List.mem_singleton.1 hi
          clear hi
          refine wpOp_v rfl (by rfl) (fun K hK => ?_)
          go_simp
          refine (HG.out _ HWd.out.2.bel).mono ?_
          rintro e w5 ⟨ad5, cd5, rfl, hp5, hb5⟩
          have H5 : Hid (VwAt w5 p f (t ++ qmark) (.slice a n cap) 0 ∧ EnSt w w5 B F (.pointer (some ⟨g, 0, none⟩)) s ep (.slice a n cap) (Value.slice au s.vs.length cu) ∧ PairsIn w5 ad5 SG) := hid ⟨HWd.out.1.keep hb5, HWd.out.2.keep hb5, hp5⟩
          clear hp5 hb5
          refine hK _ _ ⟨fun _ => ⟨H5.out.1, H5.out.2.1.cf⟩, ?_⟩
          clear hK K
          go_simp
          refine wpAnyG_all (rs := [10]) (by kernel_rfl) (by simp) ?_
          intro i hi
          obtain rfl := List.mem_singleton.1 hi
          clear hi
          refine wpOp_v rfl (by rfl) (fun K hK => ?_)
          go_simp
          refine (HAd.out _ _ _ H5.out.2.1.bel H5.out.2.1.tl H5.out.2.2).mono ?_
          rintro e w6 ⟨rfl, ht6, ho6⟩
          have H6 : Hid (VwAt w6 p f (t ++ qmark) (.slice a n cap) 0 ∧ EmSt w w6 B F (.pointer (some ⟨g, 0, none⟩)) s s ep (.slice a n cap) (Value.slice au s.vs.length cu)) := hid ⟨(ho6.block _ (lt_of_blk H5.out.1) (fun hm => by have h1 := (H5.out.2.1.far _ hm).2; have h2 := HPB.out; omega)).trans H5.out.1, H5.out.2.1.vote ho6 ht6⟩
          clear ht6 ho6
          refine hK _ _ ⟨fun _ => ⟨H6.out.1, H6.out.2.cf⟩, ?_⟩
          clear hK K
          go_simp
          refine wpAnyG_all (rs := [11]) (by kernel_rfl) (by simp) ?_
          intro i hi
          obtain rfl := List.mem_singleton.1 hi
          clear hi
          refine wpOp_v rfl (by rfl) (fun K hK => ?_)
          go_simp
          refine hK _ _ ⟨fun _ => ⟨H6.out.1, H6.out.2.cf⟩, ?_⟩
          clear hK K
          go_simp
          refine wpAnyG_done (by kernel_rfl) ?_ _
          go_simp
          have HW6 := H6
          by_cases hvt : voted s.vs f = true
          · have HK : Hid (∀ u : World, EmSt w u B F (.pointer (some ⟨g, 0, none⟩)) s s ep (.slice a n cap) (Value.slice au s.vs.length cu) → Calls Try.prog 26 #[.slice au s.vs.length cu, .int .i64 f] u fun e w' => ∃ K : Int, 0 ≤ K ∧ e = .returned (.int .i64 K) ∧ Below u.heap.size u w') := hid (fun u hu => by
              have hmx : s.vs.length ≤ maxLen := by have := HIo.out.ok.len; have := HIo.out.ok.mlen; unfold maxLen; omega
              have := uwhere_any au _ cu (s.vs.map (·.1)) (List.length_map ..) hmx f u (own_intsV hu.own)
              rw [whereI, if_pos (voted_iff.1 hvt)] at this
              exact this.mono fun e w' ⟨k1, k2⟩ => ⟨_, Int.natCast_nonneg _, k1, k2⟩)
            have x2 := HW6.out.1.cells.1
            obtain ⟨x3, x4⟩ := HW6.out.2.cf.cells
            obtain ⟨N, eN⟩ : ∃ N, N = cntB s.vs (t, C) := ⟨_, rfl⟩
            obtain ⟨M, eM⟩ : ∃ M, M = cntB s.vs (t ++ qmark, C) := ⟨_, rfl⟩
            obtain ⟨L, eL⟩ : ∃ L, L = s.vs.length := ⟨_, rfl⟩
            have hsum : N + M = L := by rw [eN, eM, eL]; exact HIn.out.sum
            have hL10 : L ≤ 10 := by have h1 := HIn.out.ok.len; have h2 := HIn.out.ok.mlen; rw [eL]; exact Nat.le_trans h1 h2.2
            have hsub : IntKind.i64.wrap ((L : Int) - (N : Int)) = (M : Int) := by
              rw [show (L : Int) - (N : Int) = (M : Int) by omega]
              exact wrap_small (M : Int) (by omega) (by omega)
            have hqq : quoT s = q := by rw [quoT, HIn.out.mem, HP.out.2.2.2.2.2.1, HP.out.2.2.2.2.2.2.1]
            have HNum := hid (And.intro eN (And.intro eM (And.intro eL (And.intro hsum hL10))))
            have hal : cntB s.vs (t, C) = N := by rw [eN]
            rw [hal]
            clear hal
            have H90 : Hid (∀ u : World, EmSt w u B F (.pointer (some ⟨g, 0, none⟩)) s s ep (.slice a n cap) (Value.slice au s.vs.length cu) → EnSt w u B F (.pointer (some ⟨g, 0, none⟩)) s ep (.slice a n cap) (Value.slice au s.vs.length cu)) := hid (fun u h => ⟨h.own, h.tl, h.cf, h.bel, h.far, h.le⟩)
            have HQq := hid hqq
            clear eN eM eL hsum hqq hL10 hmod
            by_cases h1 : q ≤ (N : Int)
            · have HSt : Hid (∀ u : World, TlAt F u (.pointer (some ⟨g, 0, none⟩)) s → Calls Try.prog 18 #[.pointer (some ⟨g, 0, none⟩)] u fun e w' => (∃ a1 c1 x2 a2 n2 c2 a3 n3 c3, e = .returned (.tuple #[.agg #[.string t, .slice a1 N c1, .int .i64 x2, .slice a2 n2 c2, .slice a3 n3 c3], .bool true])) ∧ Below u.heap.size u w') := hid (fun u hu => (vsettled_at F _ _ u hu).mono fun e w' ⟨r, k1, k2, k3⟩ => by
                obtain ⟨hc1, hc2⟩ := chB_eq HIn.out.ok (b := (t, C)) (by rw [HQq.out, ← HNum.out.1]; exact h1)
                rw [SetAns, if_pos hc1] at k2
                obtain ⟨a1, c1, a2, c2, a3, c3, k4, _⟩ := k2
                have hsg := signs_cnt HIn.out.ok (chB_not HIn.out.ok hc1) (setS s)
                rw [hc2, ← HNum.out.1] at hsg
                rw [hc2, hsg] at k4
                exact ⟨⟨a1, c1, _, a2, _, c2, a3, _, c3, by rw [k1, k4]⟩, k3⟩)
              rw [HNum.out.2.2.1] at hsub
              go_wp2_with (first
                | (go_at_call 26; go_must (refine (HK.out _ HW6.out.2).mono ?_; rintro e w7 ⟨K7, hK0, rfl, hb7⟩; have hK7 : ¬ (K7 < 0) := (by omega); clear hK0; have H7 : Hid (VwAt w7 p f (t ++ qmark) (.slice a n cap) 0 ∧ EmSt w w7 B F (.pointer (some ⟨g, 0, none⟩)) s s ep (.slice a n cap) (Value.slice au s.vs.length cu)) := hid ⟨HW6.out.1.keep hb7, HW6.out.2.keep hb7⟩; clear hb7 x2 x3 x4; have x2 := H7.out.1.cells.1; obtain ⟨x3, x4⟩ := H7.out.2.cf.cells))
                | (go_at_call 18; go_must (have H9 := hid (H90.out _ H7.out.2); refine (HSt.out _ H9.out.tl).mono ?_; rintro e w10 ⟨⟨a1, c1, x5, a2, n2, c2, a3, n3, c3, rfl⟩, hb10⟩; have H10 := hid (H9.out.keep hb10); clear hb10)))
              go_roundw
              case rel => exact ⟨j + 1, s, by have := HJ.out; omega, by go_num, by rw [HNum.out.1], H10.out.keep ((Below.refl _ _).alloc (Nat.le_refl _) _), HIn.out⟩
              case measure => simp [intOf]; omega
            by_cases h2 : q ≤ (M : Int)
            · have HSt : Hid (∀ u : World, TlAt F u (.pointer (some ⟨g, 0, none⟩)) s → Calls Try.prog 18 #[.pointer (some ⟨g, 0, none⟩)] u fun e w' => (∃ x1 a1 n1 c1 x2 a2 n2 c2 a3 n3 c3, e = .returned (.tuple #[.agg #[.string x1, .slice a1 n1 c1, .int .i64 x2, .slice a2 n2 c2, .slice a3 n3 c3], .bool true])) ∧ Below u.heap.size u w') := hid (fun u hu => (vsettled_at F _ _ u hu).mono fun e w' ⟨r, k1, k2, k3⟩ => by
                obtain ⟨hc1, hc2⟩ := chB_eq HIn.out.ok (b := (t ++ qmark, C)) (by rw [HQq.out, ← HNum.out.2.1]; exact h2)
                rw [SetAns, if_pos hc1] at k2
                obtain ⟨a1, c1, a2, c2, a3, c3, k4, _⟩ := k2
                exact ⟨⟨_, a1, _, c1, _, a2, _, c2, a3, _, c3, by rw [k1, k4]⟩, k3⟩)
              rw [HNum.out.2.2.1] at hsub
              go_wp2_with (first
                | (go_at_call 26; go_must (refine (HK.out _ HW6.out.2).mono ?_; rintro e w7 ⟨K7, hK0, rfl, hb7⟩; have hK7 : ¬ (K7 < 0) := (by omega); clear hK0; have H7 : Hid (VwAt w7 p f (t ++ qmark) (.slice a n cap) 0 ∧ EmSt w w7 B F (.pointer (some ⟨g, 0, none⟩)) s s ep (.slice a n cap) (Value.slice au s.vs.length cu)) := hid ⟨HW6.out.1.keep hb7, HW6.out.2.keep hb7⟩; clear hb7 x2 x3 x4; have x2 := H7.out.1.cells.1; obtain ⟨x3, x4⟩ := H7.out.2.cf.cells))
                | (go_at_call 18; go_must (have H9 := hid (H90.out _ H7.out.2); refine (HSt.out _ H9.out.tl).mono ?_; rintro e w10 ⟨⟨x4, a1, n1, c1, x5, a2, n2, c2, a3, n3, c3, rfl⟩, hb10⟩; have H10 := hid (H9.out.keep hb10); clear hb10)))
              go_roundw
              case rel => exact ⟨j + 1, s, by have := HJ.out; omega, by go_num, by rw [HNum.out.1], H10.out.keep ((Below.refl _ _).alloc (Nat.le_refl _) _), HIn.out⟩
              case measure => simp [intOf]; omega
            have HSt : Hid (∀ u : World, TlAt F u (.pointer (some ⟨g, 0, none⟩)) s → Calls Try.prog 18 #[.pointer (some ⟨g, 0, none⟩)] u fun e w' => (e = .returned (.tuple #[.agg #[.string ⟨#[]⟩, .slice none 0 0, .int .i64 0, .slice none 0 0, .slice none 0 0], .bool false])) ∧ Below u.heap.size u w') := hid (fun u hu => (vsettled_at F _ _ u hu).mono fun e w' ⟨r, k1, k2, k3⟩ => by
              have hcf : chF s = false := by rw [HIn.out.ch, HQq.out, ← HNum.out.1, ← HNum.out.2.1, decide_eq_false h1, decide_eq_false h2]; rfl
              rw [SetAns, hcf] at k2
              exact ⟨by rw [k1, show r = NoSet from k2]; rfl, k3⟩)
            rw [HNum.out.2.2.1] at hsub
            go_wp2_with (first
              | (go_at_call 26; go_must (refine (HK.out _ HW6.out.2).mono ?_; rintro e w7 ⟨K7, hK0, rfl, hb7⟩; have hK7 : ¬ (K7 < 0) := (by omega); clear hK0; have H7 : Hid (VwAt w7 p f (t ++ qmark) (.slice a n cap) 0 ∧ EmSt w w7 B F (.pointer (some ⟨g, 0, none⟩)) s s ep (.slice a n cap) (Value.slice au s.vs.length cu)) := hid ⟨HW6.out.1.keep hb7, HW6.out.2.keep hb7⟩; clear hb7 x2 x3 x4; have x2 := H7.out.1.cells.1; obtain ⟨x3, x4⟩ := H7.out.2.cf.cells))
              | (go_at_call 18; go_must (have H9 := hid (H90.out _ H7.out.2); refine (HSt.out _ H9.out.tl).mono ?_; rintro e w10 ⟨rfl, hb10⟩; have H10 := hid (H9.out.keep hb10); clear hb10)))
            go_roundw
            case rel => exact ⟨j + 1, s, by have := HJ.out; omega, by go_num, by rw [HNum.out.1], H10.out.keep ((Below.refl _ _).alloc (Nat.le_refl _) _), HIn.out⟩
            case measure => simp [intOf]; omega
          · have HWh : Hid (∀ u : World, EmSt w u B F (.pointer (some ⟨g, 0, none⟩)) s s ep (.slice a n cap) (Value.slice au s.vs.length cu) → Calls Try.prog 26 #[.slice au s.vs.length cu, .int .i64 f] u fun e w' => e = .returned (.int .i64 (-1)) ∧ Below u.heap.size u w') := hid (fun u hu => by
              have hmx : s.vs.length ≤ maxLen := by have := HIo.out.ok.len; have := HIo.out.ok.mlen; unfold maxLen; omega
              have := uwhere_any au _ cu (s.vs.map (·.1)) (List.length_map ..) hmx f u (own_intsV hu.own)
              rwa [whereI, if_neg (voted_false.1 (by simpa using hvt))] at this)
            have HHa : Hid (∀ u : World, Below w.heap.size w u → Calls Try.prog 24 #[.slice a n cap, .int .i64 f] u fun e w' => e = .returned (.bool false) ∧ Below u.heap.size u w') := hid (fun u hu => by
              have hmx : n ≤ maxLen := by have := HP.out.2.2.2.2.1; have := HP.out.2.2.2.2.2.1; unfold maxLen; omega
              have := vhas_any a n cap l HP.out.2.2.2.2.2.1 hmx f u (HI.out.1.keep hu (Nat.le_refl _))
              rw [show hasM l f = false from decide_eq_false (fun hm => hfr ⟨hm, by simpa using hvt⟩)] at this
              exact this.mono fun e w' ⟨k1, k2⟩ => ⟨k1, k2 ▸ Below.refl _ _⟩)
            have x2 := HW6.out.1.cells.1
            obtain ⟨x3, x4⟩ := HW6.out.2.cf.cells
            obtain ⟨N, eN⟩ : ∃ N, N = cntB s.vs (t, C) := ⟨_, rfl⟩
            obtain ⟨M, eM⟩ : ∃ M, M = cntB s.vs (t ++ qmark, C) := ⟨_, rfl⟩
            obtain ⟨L, eL⟩ : ∃ L, L = s.vs.length := ⟨_, rfl⟩
            have hsum : N + M = L := by rw [eN, eM, eL]; exact HIn.out.sum
            have hL10 : L ≤ 10 := by have h1 := HIn.out.ok.len; have h2 := HIn.out.ok.mlen; rw [eL]; exact Nat.le_trans h1 h2.2
            have hsub : IntKind.i64.wrap ((L : Int) - (N : Int)) = (M : Int) := by
              rw [show (L : Int) - (N : Int) = (M : Int) by omega]
              exact wrap_small (M : Int) (by omega) (by omega)
            have hqq : quoT s = q := by rw [quoT, HIn.out.mem, HP.out.2.2.2.2.2.1, HP.out.2.2.2.2.2.2.1]
            have HNum := hid (And.intro eN (And.intro eM (And.intro eL (And.intro hsum hL10))))
            have hal : cntB s.vs (t, C) = N := by rw [eN]
            rw [hal]
            clear hal
            have H90 : Hid (∀ u : World, EmSt w u B F (.pointer (some ⟨g, 0, none⟩)) s s ep (.slice a n cap) (Value.slice au s.vs.length cu) → EnSt w u B F (.pointer (some ⟨g, 0, none⟩)) s ep (.slice a n cap) (Value.slice au s.vs.length cu)) := hid (fun u h => ⟨h.own, h.tl, h.cf, h.bel, h.far, h.le⟩)
            have HQq := hid hqq
            clear eN eM eL hsum hqq hL10 hmod
            by_cases h1 : q ≤ (N : Int)
            · have HSt : Hid (∀ u : World, TlAt F u (.pointer (some ⟨g, 0, none⟩)) s → Calls Try.prog 18 #[.pointer (some ⟨g, 0, none⟩)] u fun e w' => (∃ a1 c1 x2 a2 n2 c2 a3 n3 c3, e = .returned (.tuple #[.agg #[.string t, .slice a1 N c1, .int .i64 x2, .slice a2 n2 c2, .slice a3 n3 c3], .bool true])) ∧ Below u.heap.size u w') := hid (fun u hu => (vsettled_at F _ _ u hu).mono fun e w' ⟨r, k1, k2, k3⟩ => by
                obtain ⟨hc1, hc2⟩ := chB_eq HIn.out.ok (b := (t, C)) (by rw [HQq.out, ← HNum.out.1]; exact h1)
                rw [SetAns, if_pos hc1] at k2
                obtain ⟨a1, c1, a2, c2, a3, c3, k4, _⟩ := k2
                have hsg := signs_cnt HIn.out.ok (chB_not HIn.out.ok hc1) (setS s)
                rw [hc2, ← HNum.out.1] at hsg
                rw [hc2, hsg] at k4
                exact ⟨⟨a1, c1, _, a2, _, c2, a3, _, c3, by rw [k1, k4]⟩, k3⟩)
              rw [HNum.out.2.2.1] at hsub
              go_wp2_with (first
                | (go_at_call 26; go_must (refine (HWh.out _ HW6.out.2).mono ?_; rintro e w7 ⟨rfl, hb7⟩; have H7 : Hid (VwAt w7 p f (t ++ qmark) (.slice a n cap) 0 ∧ EmSt w w7 B F (.pointer (some ⟨g, 0, none⟩)) s s ep (.slice a n cap) (Value.slice au s.vs.length cu)) := hid ⟨HW6.out.1.keep hb7, HW6.out.2.keep hb7⟩; clear hb7 x2 x3 x4; have x2 := H7.out.1.cells.1; obtain ⟨x3, x4⟩ := H7.out.2.cf.cells))
                | (go_at_call 24; go_must (refine (HHa.out _ H7.out.2.bel).mono ?_; rintro e w8 ⟨rfl, hb8⟩; have H8 : Hid (VwAt w8 p f (t ++ qmark) (.slice a n cap) 0 ∧ EmSt w w8 B F (.pointer (some ⟨g, 0, none⟩)) s s ep (.slice a n cap) (Value.slice au s.vs.length cu)) := hid ⟨H7.out.1.keep hb8, H7.out.2.keep hb8⟩; clear hb8 x2 x3 x4; have x2 := H8.out.1.cells.1; obtain ⟨x3, x4⟩ := H8.out.2.cf.cells))
                | (go_at_call 18; go_must (have H9 := hid (H90.out _ H8.out.2); refine (HSt.out _ H9.out.tl).mono ?_; rintro e w10 ⟨⟨a1, c1, x5, a2, n2, c2, a3, n3, c3, rfl⟩, hb10⟩; have H10 := hid (H9.out.keep hb10); clear hb10)))
              go_roundw
              case rel => exact ⟨j + 1, s, by have := HJ.out; omega, by go_num, by rw [HNum.out.1], H10.out.keep ((Below.refl _ _).alloc (Nat.le_refl _) _), HIn.out⟩
              case measure => simp [intOf]; omega
            by_cases h2 : q ≤ (M : Int)
            · have HSt : Hid (∀ u : World, TlAt F u (.pointer (some ⟨g, 0, none⟩)) s → Calls Try.prog 18 #[.pointer (some ⟨g, 0, none⟩)] u fun e w' => (∃ x1 a1 n1 c1 x2 a2 n2 c2 a3 n3 c3, e = .returned (.tuple #[.agg #[.string x1, .slice a1 n1 c1, .int .i64 x2, .slice a2 n2 c2, .slice a3 n3 c3], .bool true])) ∧ Below u.heap.size u w') := hid (fun u hu => (vsettled_at F _ _ u hu).mono fun e w' ⟨r, k1, k2, k3⟩ => by
                obtain ⟨hc1, hc2⟩ := chB_eq HIn.out.ok (b := (t ++ qmark, C)) (by rw [HQq.out, ← HNum.out.2.1]; exact h2)
                rw [SetAns, if_pos hc1] at k2
                obtain ⟨a1, c1, a2, c2, a3, c3, k4, _⟩ := k2
                exact ⟨⟨_, a1, _, c1, _, a2, _, c2, a3, _, c3, by rw [k1, k4]⟩, k3⟩)
              rw [HNum.out.2.2.1] at hsub
              go_wp2_with (first
                | (go_at_call 26; go_must (refine (HWh.out _ HW6.out.2).mono ?_; rintro e w7 ⟨rfl, hb7⟩; have H7 : Hid (VwAt w7 p f (t ++ qmark) (.slice a n cap) 0 ∧ EmSt w w7 B F (.pointer (some ⟨g, 0, none⟩)) s s ep (.slice a n cap) (Value.slice au s.vs.length cu)) := hid ⟨HW6.out.1.keep hb7, HW6.out.2.keep hb7⟩; clear hb7 x2 x3 x4; have x2 := H7.out.1.cells.1; obtain ⟨x3, x4⟩ := H7.out.2.cf.cells))
                | (go_at_call 24; go_must (refine (HHa.out _ H7.out.2.bel).mono ?_; rintro e w8 ⟨rfl, hb8⟩; have H8 : Hid (VwAt w8 p f (t ++ qmark) (.slice a n cap) 0 ∧ EmSt w w8 B F (.pointer (some ⟨g, 0, none⟩)) s s ep (.slice a n cap) (Value.slice au s.vs.length cu)) := hid ⟨H7.out.1.keep hb8, H7.out.2.keep hb8⟩; clear hb8 x2 x3 x4; have x2 := H8.out.1.cells.1; obtain ⟨x3, x4⟩ := H8.out.2.cf.cells))
                | (go_at_call 18; go_must (have H9 := hid (H90.out _ H8.out.2); refine (HSt.out _ H9.out.tl).mono ?_; rintro e w10 ⟨⟨x4, a1, n1, c1, x5, a2, n2, c2, a3, n3, c3, rfl⟩, hb10⟩; have H10 := hid (H9.out.keep hb10); clear hb10)))
              go_roundw
              case rel => exact ⟨j + 1, s, by have := HJ.out; omega, by go_num, by rw [HNum.out.1], H10.out.keep ((Below.refl _ _).alloc (Nat.le_refl _) _), HIn.out⟩
              case measure => simp [intOf]; omega
            have HSt : Hid (∀ u : World, TlAt F u (.pointer (some ⟨g, 0, none⟩)) s → Calls Try.prog 18 #[.pointer (some ⟨g, 0, none⟩)] u fun e w' => (e = .returned (.tuple #[.agg #[.string ⟨#[]⟩, .slice none 0 0, .int .i64 0, .slice none 0 0, .slice none 0 0], .bool false])) ∧ Below u.heap.size u w') := hid (fun u hu => (vsettled_at F _ _ u hu).mono fun e w' ⟨r, k1, k2, k3⟩ => by
              have hcf : chF s = false := by rw [HIn.out.ch, HQq.out, ← HNum.out.1, ← HNum.out.2.1, decide_eq_false h1, decide_eq_false h2]; rfl
              rw [SetAns, hcf] at k2
              exact ⟨by rw [k1, show r = NoSet from k2]; rfl, k3⟩)
            rw [HNum.out.2.2.1] at hsub
            go_wp2_with (first
              | (go_at_call 26; go_must (refine (HWh.out _ HW6.out.2).mono ?_; rintro e w7 ⟨rfl, hb7⟩; have H7 : Hid (VwAt w7 p f (t ++ qmark) (.slice a n cap) 0 ∧ EmSt w w7 B F (.pointer (some ⟨g, 0, none⟩)) s s ep (.slice a n cap) (Value.slice au s.vs.length cu)) := hid ⟨HW6.out.1.keep hb7, HW6.out.2.keep hb7⟩; clear hb7 x2 x3 x4; have x2 := H7.out.1.cells.1; obtain ⟨x3, x4⟩ := H7.out.2.cf.cells))
              | (go_at_call 24; go_must (refine (HHa.out _ H7.out.2.bel).mono ?_; rintro e w8 ⟨rfl, hb8⟩; have H8 : Hid (VwAt w8 p f (t ++ qmark) (.slice a n cap) 0 ∧ EmSt w w8 B F (.pointer (some ⟨g, 0, none⟩)) s s ep (.slice a n cap) (Value.slice au s.vs.length cu)) := hid ⟨H7.out.1.keep hb8, H7.out.2.keep hb8⟩; clear hb8 x2 x3 x4; have x2 := H8.out.1.cells.1; obtain ⟨x3, x4⟩ := H8.out.2.cf.cells))
              | (go_at_call 18; go_must (have H9 := hid (H90.out _ H8.out.2); refine (HSt.out _ H9.out.tl).mono ?_; rintro e w10 ⟨rfl, hb10⟩; have H10 := hid (H9.out.keep hb10); clear hb10)))
            go_roundw
            case rel => exact ⟨j + 1, s, by have := HJ.out; omega, by go_num, by rw [HNum.out.1], H10.out.keep ((Below.refl _ _).alloc (Nat.le_refl _) _), HIn.out⟩
            case measure => simp [intOf]; omega
      · by_cases hfr : f ∈ l ∧ voted s.vs f = false
        · have hm1 : ¬ ((j : Int).tmod 4 = 3) := by rw [Int.tmod_eq_emod_of_nonneg (by omega)]; omega
          go_wp2
          obtain ⟨wq, eq⟩ : ∃ wq, wq = wz := ⟨_, rfl⟩
          have HW : Hid (VwAt wq p f t (.slice a n cap) 0 ∧ EnSt w wq B F (.pointer (some ⟨g, 0, none⟩)) s ep (.slice a n cap) (Value.slice au s.vs.length cu)) := hid ⟨by rw [eq]; exact HZ.out.1, by rw [eq]; exact HZ.out.2.1⟩
          rw [← eq]
          clear eq
          have hTA : tA t j = t := by rw [tA, if_neg hmod]
          obtain ⟨hvB, hvC, hyes, hnot⟩ := HZ.out.2.2.1.add j f HP.out.1 HP.out.2.1 HP.out.2.2.1 HP.out.2.2.2.1
          rw [hTA] at hvB hvC hyes hnot
          have hTs : t.size ≤ 140737488355328 := by have := tA_size t j; rw [hTA] at this; have := HP.out.1; omega
          have HG : Hid (∀ u : World, Below w.heap.size w u → Calls Try.prog 14 #[.agg #[.int .i64 f, .string t, .slice a n cap, .int .i64 0], .agg #[.int .i64 ep, .slice a n cap]] u fun e w' => ∃ ad cd, e = .returned (.slice ad 2 cd) ∧ PairsIn w' ad (sgOf f (voS ep l t l) C 0) ∧ Below u.heap.size u w') := hid (fun u hu => by
            have hmx : n ≤ maxLen := by have := HP.out.2.2.2.2.1; have := HP.out.2.2.2.2.2.1; unfold maxLen; omega
            have := usigs_any f t hTs a n cap l HP.out.2.2.2.2.2.1 hmx 0 ep a n cap l HP.out.2.2.2.2.2.1 hmx u (HI.out.1.keep hu (Nat.le_refl _)) (HI.out.1.keep hu (Nat.le_refl _))
            rw [hvC] at this
            exact this.mono fun e w' ⟨ad, cd, k1, k2, k3⟩ => ⟨ad, cd, k1, k2.1, k3⟩)
          have HIn : Hid (EnIn ep l t C ⟨ep, l, s.vs ++ [(f, (t, C))]⟩) := hid (by have := HZ.out.2.2.1.next j f HP.out.1 HP.out.2.1 HP.out.2.2.1 HP.out.2.2.2.1 hfr; rwa [hTA] at this)
          have HAd : Hid (∀ (u : World) (ad : Option Addr) (cd : Nat), Below w.heap.size w u → TlAt F u (.pointer (some ⟨g, 0, none⟩)) s → PairsIn u ad (sgOf f (voS ep l t l) C 0) → Calls Try.prog 15 #[.pointer (some ⟨g, 0, none⟩), .int .i64 f, .string t, .slice a n cap, .slice ad 2 cd] u fun e w' => e = .returned (.int .i64 0) ∧ TlAt F w' (.pointer (some ⟨g, 0, none⟩)) ⟨ep, l, s.vs ++ [(f, (t, C))]⟩ ∧ Out F u w') := hid (fun u ad cd hu ht hp => by
            have hmx : n ≤ maxLen := by have := HP.out.2.2.2.2.1; have := HP.out.2.2.2.2.2.1; unfold maxLen; omega
            have := vadd_at F _ s f t hTs a n cap l HP.out.2.2.2.2.2.1 hmx ad 2 cd (sgOf f (voS ep l t l) C 0) rfl (by decide) u ht (HI.out.1.keep hu (Nat.le_refl _)) hp
            rwa [(hyes hfr).1, (hyes hfr).2] at this)
          clear hvB hvC hyes hnot hTs hTA HZ
          generalize sgOf f (voS ep l t l) C 0 = SG at HG HAd
          have HWd : Hid (VwAt wq.drew p f t (.slice a n cap) 0 ∧ EnSt w wq.drew B F (.pointer (some ⟨g, 0, none⟩)) s ep (.slice a n cap) (Value.slice au s.vs.length cu)) := hid ⟨HW.out.1, HW.out.2.keep (Below.refl _ _).drew⟩
          refine wp_region_G (S := fun ww => VwAt ww p f t (.slice a n cap) 0 ∧ CvAt ww w.heap.size ep (.slice a n cap)) (ex := []) (by kernel_rfl) ?_
          try (change wpAnyG _ _ _ _ _ _ _ _ _ (World.drew _))
          refine wpAnyG_take (i := 0) (v := ?v181) rfl (by kernel_rfl) (fun _ _ _ h => h) (Or.inl ⟨by rfl, ?hy181⟩) ⟨HWd.out.1, HWd.out.2.cf⟩ ?rest181
          case hy181 => (intro ww _; go_simp; try with_reducible rfl)
          go_simp
          refine wpAnyG_take (i := 1) (v := ?v182) rfl (by kernel_rfl) (fun _ _ _ h => h) (Or.inl ⟨by rfl, ?hy182⟩) ⟨HWd.out.1, HWd.out.2.cf⟩ ?rest182
          case hy182 => (intro ww _; go_simp; try with_reducible rfl)
          go_simp
          refine wpAnyG_take (i := 2) (v := ?v183) rfl (by kernel_rfl) (fun _ _ _ h => h) (Or.inl ⟨by rfl, ?hy183⟩) ⟨HWd.out.1, HWd.out.2.cf⟩ ?rest183
          case hy183 => (intro ww hS; obtain ⟨y0, y1, y2, y3⟩ := hS.1.cells; obtain ⟨y4, y5⟩ := hS.2.cells; go_simp; try with_reducible rfl)
          go_simp
          refine wpAnyG_take (i := 3) (v := ?v184) rfl (by kernel_rfl) (fun _ _ _ h => h) (Or.inl ⟨by rfl, ?hy184⟩) ⟨HWd.out.1, HWd.out.2.cf⟩ ?rest184
          case hy184 => (intro ww _; go_simp; try with_reducible rfl)
          go_simp
          refine wpAnyG_take (i := 4) (v := ?v185) rfl (by kernel_rfl) (fun _ _ _ h => h) (Or.inl ⟨by rfl, ?hy185⟩) ⟨HWd.out.1, HWd.out.2.cf⟩ ?rest185
          case hy185 => (intro ww hS; obtain ⟨y0, y1, y2, y3⟩ := hS.1.cells; obtain ⟨y4, y5⟩ := hS.2.cells; go_simp; try with_reducible rfl)
          go_simp
          refine wpAnyG_take (i := 5) (v := ?v186) rfl (by kernel_rfl) (fun _ _ _ h => h) (Or.inl ⟨by rfl, ?hy186⟩) ⟨HWd.out.1, HWd.out.2.cf⟩ ?rest186
          case hy186 => (intro ww _; go_simp; try with_reducible rfl)
          go_simp
          refine wpAnyG_take (i := 6) (v := ?v187) rfl (by kernel_rfl) (fun _ _ _ h => h) (Or.inl ⟨by rfl, ?hy187⟩) ⟨HWd.out.1, HWd.out.2.cf⟩ ?rest187
          case hy187 => (intro ww hS; obtain ⟨y0, y1, y2, y3⟩ := hS.1.cells; obtain ⟨y4, y5⟩ := hS.2.cells; go_simp; try with_reducible rfl)
          go_simp
          refine wpAnyG_take (i := 7) (v := ?v188) rfl (by kernel_rfl) (fun _ _ _ h => h) (Or.inl ⟨by rfl, ?hy188⟩) ⟨HWd.out.1, HWd.out.2.cf⟩ ?rest188
          case hy188 => (intro ww hS; obtain ⟨y0, y1, y2, y3⟩ := hS.1.cells; obtain ⟨y4, y5⟩ := hS.2.cells; go_simp; try with_reducible rfl)
          go_simp
          refine wpAnyG_take (i := 8) (v := ?v189) rfl (by kernel_rfl) (fun _ _ _ h => h) (Or.inl ⟨by rfl, ?hy189⟩) ⟨HWd.out.1, HWd.out.2.cf⟩ ?rest189
          case hy189 => (intro ww hS; obtain ⟨y0, y1, y2, y3⟩ := hS.1.cells; obtain ⟨y4, y5⟩ := hS.2.cells; go_simp; try with_reducible rfl)
          go_simp
          refine wpAnyG_all (rs := [9]) (by kernel_rfl) (by simp) ?_
          intro i hi
          obtain rfl := List.mem_singleton.1 hi
          clear hi
          refine wpOp_v rfl (by rfl) (fun K hK => ?_)
          go_simp
          refine (HG.out _ HWd.out.2.bel).mono ?_
          rintro e w5 ⟨ad5, cd5, rfl, hp5, hb5⟩
          have H5 : Hid (VwAt w5 p f t (.slice a n cap) 0 ∧ EnSt w w5 B F (.pointer (some ⟨g, 0, none⟩)) s ep (.slice a n cap) (Value.slice au s.vs.length cu) ∧ PairsIn w5 ad5 SG) := hid ⟨HWd.out.1.keep hb5, HWd.out.2.keep hb5, hp5⟩
          clear hp5 hb5
          refine hK _ _ ⟨fun _ => ⟨H5.out.1, H5.out.2.1.cf⟩, ?_⟩
          clear hK K
          go_simp
          refine wpAnyG_all (rs := [10]) (by kernel_rfl) (by simp) ?_
          intro i hi
          obtain rfl := List.mem_singleton.1 hi
          clear hi
          refine wpOp_v rfl (by rfl) (fun K hK => ?_)
          go_simp
          refine (HAd.out _ _ _ H5.out.2.1.bel H5.out.2.1.tl H5.out.2.2).mono ?_
          rintro e w6 ⟨rfl, ht6, ho6⟩
          have H6 : Hid (VwAt w6 p f t (.slice a n cap) 0 ∧ EmSt w w6 B F (.pointer (some ⟨g, 0, none⟩)) s ⟨ep, l, s.vs ++ [(f, (t, C))]⟩ ep (.slice a n cap) (Value.slice au s.vs.length cu)) := hid ⟨(ho6.block _ (lt_of_blk H5.out.1) (fun hm => by have h1 := (H5.out.2.1.far _ hm).2; have h2 := HPB.out; omega)).trans H5.out.1, H5.out.2.1.vote ho6 ht6⟩
          clear ht6 ho6
          refine hK _ _ ⟨fun _ => ⟨H6.out.1, H6.out.2.cf⟩, ?_⟩
          clear hK K
          go_simp
          refine wpAnyG_all (rs := [11]) (by kernel_rfl) (by simp) ?_
          intro i hi
          obtain rfl := List.mem_singleton.1 hi
          clear hi
          refine wpOp_v rfl (by rfl) (fun K hK => ?_)
          go_simp
          refine hK _ _ ⟨fun _ => ⟨H6.out.1, H6.out.2.cf⟩, ?_⟩
          clear hK K
          go_simp
          refine wpAnyG_done (by kernel_rfl) ?_ _
          go_simp
          have HW6 := H6
          have HWh : Hid (∀ u : World, EmSt w u B F (.pointer (some ⟨g, 0, none⟩)) s ⟨ep, l, s.vs ++ [(f, (t, C))]⟩ ep (.slice a n cap) (Value.slice au s.vs.length cu) → Calls Try.prog 26 #[.slice au s.vs.length cu, .int .i64 f] u fun e w' => e = .returned (.int .i64 (-1)) ∧ Below u.heap.size u w') := hid (fun u hu => by
            have hmx : s.vs.length ≤ maxLen := by have := HIo.out.ok.len; have := HIo.out.ok.mlen; unfold maxLen; omega
            have := uwhere_any au _ cu (s.vs.map (·.1)) (List.length_map ..) hmx f u (own_intsV hu.own)
            rwa [whereI, if_neg (voted_false.1 hfr.2)] at this)
          have HHa : Hid (∀ u : World, Below w.heap.size w u → Calls Try.prog 24 #[.slice a n cap, .int .i64 f] u fun e w' => e = .returned (.bool true) ∧ Below u.heap.size u w') := hid (fun u hu => by
            have hmx : n ≤ maxLen := by have := HP.out.2.2.2.2.1; have := HP.out.2.2.2.2.2.1; unfold maxLen; omega
            have := vhas_any a n cap l HP.out.2.2.2.2.2.1 hmx f u (HI.out.1.keep hu (Nat.le_refl _))
            rw [show hasM l f = true from decide_eq_true hfr.1] at this
            exact this.mono fun e w' ⟨k1, k2⟩ => ⟨k1, k2 ▸ Below.refl _ _⟩)
          have x2 := HW6.out.1.cells.1
          obtain ⟨x3, x4⟩ := HW6.out.2.cf.cells
          obtain ⟨N, eN⟩ : ∃ N, N = cntB (s.vs ++ [(f, (t, C))]) (t, C) := ⟨_, rfl⟩
          obtain ⟨M, eM⟩ : ∃ M, M = cntB (s.vs ++ [(f, (t, C))]) (t ++ qmark, C) := ⟨_, rfl⟩
          obtain ⟨L, eL⟩ : ∃ L, L = (s.vs ++ [(f, (t, C))]).length := ⟨_, rfl⟩
          have hsum : N + M = L := by rw [eN, eM, eL]; exact HIn.out.sum
          have hL10 : L ≤ 10 := by have h1 := HIn.out.ok.len; have h2 := HIn.out.ok.mlen; rw [eL]; exact Nat.le_trans h1 h2.2
          have hsub : IntKind.i64.wrap ((L : Int) - (N : Int)) = (M : Int) := by
            rw [show (L : Int) - (N : Int) = (M : Int) by omega]
            exact wrap_small (M : Int) (by omega) (by omega)
          have hqq : quoT ⟨ep, l, s.vs ++ [(f, (t, C))]⟩ = q := by rw [quoT, HIn.out.mem, HP.out.2.2.2.2.2.1, HP.out.2.2.2.2.2.2.1]
          have HNum := hid (And.intro eN (And.intro eM (And.intro eL (And.intro hsum hL10))))
          have hal : IntKind.i64.wrap ((cntB s.vs (t, C) : Int) + 1) = (N : Int) := by
            rw [show (cntB s.vs (t, C) : Int) + 1 = (N : Int) by rw [eN, cntB_add, if_pos rfl]; omega]
            exact wrap_small (N : Int) (by omega) (by omega)
          have hLs : s.vs.length + 1 = L := by rw [eL, List.length_append]; rfl
          have HLs := hid hLs
          have HQq := hid hqq
          clear eN eM eL hsum hqq hL10 hmod hLs
          by_cases h1 : q ≤ (N : Int)
          · have HSt : Hid (∀ u : World, TlAt F u (.pointer (some ⟨g, 0, none⟩)) ⟨ep, l, s.vs ++ [(f, (t, C))]⟩ → Calls Try.prog 18 #[.pointer (some ⟨g, 0, none⟩)] u fun e w' => (∃ a1 c1 x2 a2 n2 c2 a3 n3 c3, e = .returned (.tuple #[.agg #[.string t, .slice a1 N c1, .int .i64 x2, .slice a2 n2 c2, .slice a3 n3 c3], .bool true])) ∧ Below u.heap.size u w') := hid (fun u hu => (vsettled_at F _ _ u hu).mono fun e w' ⟨r, k1, k2, k3⟩ => by
              obtain ⟨hc1, hc2⟩ := chB_eq HIn.out.ok (b := (t, C)) (by rw [HQq.out, ← HNum.out.1]; exact h1)
              rw [SetAns, if_pos hc1] at k2
              obtain ⟨a1, c1, a2, c2, a3, c3, k4, _⟩ := k2
              have hsg := signs_cnt HIn.out.ok (chB_not HIn.out.ok hc1) (setS ⟨ep, l, s.vs ++ [(f, (t, C))]⟩)
              rw [hc2, ← HNum.out.1] at hsg
              rw [hc2, hsg] at k4
              exact ⟨⟨a1, c1, _, a2, _, c2, a3, _, c3, by rw [k1, k4]⟩, k3⟩)
            go_wp2_with (first
              | (go_at_call 26; go_must (refine (HWh.out _ HW6.out.2).mono ?_; rintro e w7 ⟨rfl, hb7⟩; have H7 : Hid (VwAt w7 p f t (.slice a n cap) 0 ∧ EmSt w w7 B F (.pointer (some ⟨g, 0, none⟩)) s ⟨ep, l, s.vs ++ [(f, (t, C))]⟩ ep (.slice a n cap) (Value.slice au s.vs.length cu)) := hid ⟨HW6.out.1.keep hb7, HW6.out.2.keep hb7⟩; clear hb7 x2 x3 x4; have x2 := H7.out.1.cells.1; obtain ⟨x3, x4⟩ := H7.out.2.cf.cells))
              | (go_at_call 24; go_must (refine (HHa.out _ H7.out.2.bel).mono ?_; rintro e w8 ⟨rfl, hb8⟩; have H8 : Hid (VwAt w8 p f t (.slice a n cap) 0 ∧ EmSt w w8 B F (.pointer (some ⟨g, 0, none⟩)) s ⟨ep, l, s.vs ++ [(f, (t, C))]⟩ ep (.slice a n cap) (Value.slice au s.vs.length cu)) := hid ⟨H7.out.1.keep hb8, H7.out.2.keep hb8⟩; clear hb8 x2 x3 x4; have x2 := H8.out.1.cells.1; obtain ⟨x3, x4⟩ := H8.out.2.cf.cells))
              | (at_builtin; refine wpList_append_own _ rfl _ _ 22 rfl B 3 i0 (.int .i64 0) 1 8 Try.underlying22 hi0 hz0 hz1 hz2 rfl (by decide) _ s.vs.length _ rfl (by exact (H8.out.2.own.alloc _)) ⟨_, 0, none⟩ 1 1 (iC [f]) rfl rfl (World.news_of_block (t := 3) (fr := (0, 0)) (heap_alloc_last _ _)) (iC_one _) (by have := HLs.out; have := HNum.out; unfold maxLen; omega) (by have := HLs.out; have := HNum.out; omega) (by have := H8.out.2.le; simp; omega) ?_; intro v9 w9 hown9 hgrow9 hnil9; have h9 : EnSt w w9 B F (.pointer (some ⟨g, 0, none⟩)) ⟨ep, l, s.vs ++ [(f, (t, C))]⟩ ep (.slice a n cap) v9 := (H8.out.2.keep ((Below.refl _ _).alloc (Nat.le_refl _) _)).more hgrow9 (by rw [show (s.vs ++ [(f, (t, C))]).length = s.vs.length + 1 by rw [List.length_append]; rfl, List.map_append, iC_app]; exact hown9); obtain ⟨a9, c9, e9, _⟩ := own_len h9.own; rw [← HNum.out.2.2.1] at e9; subst e9; have H9 := hid h9; clear hown9 hgrow9 hnil9 h9)
              | (go_at_call 18; go_must (refine (HSt.out _ H9.out.tl).mono ?_; rintro e w10 ⟨⟨a1, c1, x5, a2, n2, c2, a3, n3, c3, rfl⟩, hb10⟩; have H10 := hid (H9.out.keep hb10); clear hb10)))
            go_roundw
            case rel => exact ⟨j + 1, ⟨ep, l, s.vs ++ [(f, (t, C))]⟩, by have := HJ.out; omega, by go_num, by rw [HNum.out.1], H10.out.keep ((Below.refl _ _).alloc (Nat.le_refl _) _), HIn.out⟩
            case measure => simp [intOf]; omega
          by_cases h2 : q ≤ (M : Int)
          · have HSt : Hid (∀ u : World, TlAt F u (.pointer (some ⟨g, 0, none⟩)) ⟨ep, l, s.vs ++ [(f, (t, C))]⟩ → Calls Try.prog 18 #[.pointer (some ⟨g, 0, none⟩)] u fun e w' => (∃ x1 a1 n1 c1 x2 a2 n2 c2 a3 n3 c3, e = .returned (.tuple #[.agg #[.string x1, .slice a1 n1 c1, .int .i64 x2, .slice a2 n2 c2, .slice a3 n3 c3], .bool true])) ∧ Below u.heap.size u w') := hid (fun u hu => (vsettled_at F _ _ u hu).mono fun e w' ⟨r, k1, k2, k3⟩ => by
              obtain ⟨hc1, hc2⟩ := chB_eq HIn.out.ok (b := (t ++ qmark, C)) (by rw [HQq.out, ← HNum.out.2.1]; exact h2)
              rw [SetAns, if_pos hc1] at k2
              obtain ⟨a1, c1, a2, c2, a3, c3, k4, _⟩ := k2
              exact ⟨⟨_, a1, _, c1, _, a2, _, c2, a3, _, c3, by rw [k1, k4]⟩, k3⟩)
            go_wp2_with (first
              | (go_at_call 26; go_must (refine (HWh.out _ HW6.out.2).mono ?_; rintro e w7 ⟨rfl, hb7⟩; have H7 : Hid (VwAt w7 p f t (.slice a n cap) 0 ∧ EmSt w w7 B F (.pointer (some ⟨g, 0, none⟩)) s ⟨ep, l, s.vs ++ [(f, (t, C))]⟩ ep (.slice a n cap) (Value.slice au s.vs.length cu)) := hid ⟨HW6.out.1.keep hb7, HW6.out.2.keep hb7⟩; clear hb7 x2 x3 x4; have x2 := H7.out.1.cells.1; obtain ⟨x3, x4⟩ := H7.out.2.cf.cells))
              | (go_at_call 24; go_must (refine (HHa.out _ H7.out.2.bel).mono ?_; rintro e w8 ⟨rfl, hb8⟩; have H8 : Hid (VwAt w8 p f t (.slice a n cap) 0 ∧ EmSt w w8 B F (.pointer (some ⟨g, 0, none⟩)) s ⟨ep, l, s.vs ++ [(f, (t, C))]⟩ ep (.slice a n cap) (Value.slice au s.vs.length cu)) := hid ⟨H7.out.1.keep hb8, H7.out.2.keep hb8⟩; clear hb8 x2 x3 x4; have x2 := H8.out.1.cells.1; obtain ⟨x3, x4⟩ := H8.out.2.cf.cells))
              | (at_builtin; refine wpList_append_own _ rfl _ _ 22 rfl B 3 i0 (.int .i64 0) 1 8 Try.underlying22 hi0 hz0 hz1 hz2 rfl (by decide) _ s.vs.length _ rfl (by exact (H8.out.2.own.alloc _)) ⟨_, 0, none⟩ 1 1 (iC [f]) rfl rfl (World.news_of_block (t := 3) (fr := (0, 0)) (heap_alloc_last _ _)) (iC_one _) (by have := HLs.out; have := HNum.out; unfold maxLen; omega) (by have := HLs.out; have := HNum.out; omega) (by have := H8.out.2.le; simp; omega) ?_; intro v9 w9 hown9 hgrow9 hnil9; have h9 : EnSt w w9 B F (.pointer (some ⟨g, 0, none⟩)) ⟨ep, l, s.vs ++ [(f, (t, C))]⟩ ep (.slice a n cap) v9 := (H8.out.2.keep ((Below.refl _ _).alloc (Nat.le_refl _) _)).more hgrow9 (by rw [show (s.vs ++ [(f, (t, C))]).length = s.vs.length + 1 by rw [List.length_append]; rfl, List.map_append, iC_app]; exact hown9); obtain ⟨a9, c9, e9, _⟩ := own_len h9.own; rw [← HNum.out.2.2.1] at e9; subst e9; have H9 := hid h9; clear hown9 hgrow9 hnil9 h9)
              | (go_at_call 18; go_must (refine (HSt.out _ H9.out.tl).mono ?_; rintro e w10 ⟨⟨x4, a1, n1, c1, x5, a2, n2, c2, a3, n3, c3, rfl⟩, hb10⟩; have H10 := hid (H9.out.keep hb10); clear hb10)))
            go_roundw
            case rel => exact ⟨j + 1, ⟨ep, l, s.vs ++ [(f, (t, C))]⟩, by have := HJ.out; omega, by go_num, by rw [HNum.out.1], H10.out.keep ((Below.refl _ _).alloc (Nat.le_refl _) _), HIn.out⟩
            case measure => simp [intOf]; omega
          have HSt : Hid (∀ u : World, TlAt F u (.pointer (some ⟨g, 0, none⟩)) ⟨ep, l, s.vs ++ [(f, (t, C))]⟩ → Calls Try.prog 18 #[.pointer (some ⟨g, 0, none⟩)] u fun e w' => (e = .returned (.tuple #[.agg #[.string ⟨#[]⟩, .slice none 0 0, .int .i64 0, .slice none 0 0, .slice none 0 0], .bool false])) ∧ Below u.heap.size u w') := hid (fun u hu => (vsettled_at F _ _ u hu).mono fun e w' ⟨r, k1, k2, k3⟩ => by
            have hcf : chF ⟨ep, l, s.vs ++ [(f, (t, C))]⟩ = false := by rw [HIn.out.ch, HQq.out, ← HNum.out.1, ← HNum.out.2.1, decide_eq_false h1, decide_eq_false h2]; rfl
            rw [SetAns, hcf] at k2
            exact ⟨by rw [k1, show r = NoSet from k2]; rfl, k3⟩)
          go_wp2_with (first
            | (go_at_call 26; go_must (refine (HWh.out _ HW6.out.2).mono ?_; rintro e w7 ⟨rfl, hb7⟩; have H7 : Hid (VwAt w7 p f t (.slice a n cap) 0 ∧ EmSt w w7 B F (.pointer (some ⟨g, 0, none⟩)) s ⟨ep, l, s.vs ++ [(f, (t, C))]⟩ ep (.slice a n cap) (Value.slice au s.vs.length cu)) := hid ⟨HW6.out.1.keep hb7, HW6.out.2.keep hb7⟩; clear hb7 x2 x3 x4; have x2 := H7.out.1.cells.1; obtain ⟨x3, x4⟩ := H7.out.2.cf.cells))
            | (go_at_call 24; go_must (refine (HHa.out _ H7.out.2.bel).mono ?_; rintro e w8 ⟨rfl, hb8⟩; have H8 : Hid (VwAt w8 p f t (.slice a n cap) 0 ∧ EmSt w w8 B F (.pointer (some ⟨g, 0, none⟩)) s ⟨ep, l, s.vs ++ [(f, (t, C))]⟩ ep (.slice a n cap) (Value.slice au s.vs.length cu)) := hid ⟨H7.out.1.keep hb8, H7.out.2.keep hb8⟩; clear hb8 x2 x3 x4; have x2 := H8.out.1.cells.1; obtain ⟨x3, x4⟩ := H8.out.2.cf.cells))
            | (at_builtin; refine wpList_append_own _ rfl _ _ 22 rfl B 3 i0 (.int .i64 0) 1 8 Try.underlying22 hi0 hz0 hz1 hz2 rfl (by decide) _ s.vs.length _ rfl (by exact (H8.out.2.own.alloc _)) ⟨_, 0, none⟩ 1 1 (iC [f]) rfl rfl (World.news_of_block (t := 3) (fr := (0, 0)) (heap_alloc_last _ _)) (iC_one _) (by have := HLs.out; have := HNum.out; unfold maxLen; omega) (by have := HLs.out; have := HNum.out; omega) (by have := H8.out.2.le; simp; omega) ?_; intro v9 w9 hown9 hgrow9 hnil9; have h9 : EnSt w w9 B F (.pointer (some ⟨g, 0, none⟩)) ⟨ep, l, s.vs ++ [(f, (t, C))]⟩ ep (.slice a n cap) v9 := (H8.out.2.keep ((Below.refl _ _).alloc (Nat.le_refl _) _)).more hgrow9 (by rw [show (s.vs ++ [(f, (t, C))]).length = s.vs.length + 1 by rw [List.length_append]; rfl, List.map_append, iC_app]; exact hown9); obtain ⟨a9, c9, e9, _⟩ := own_len h9.own; rw [← HNum.out.2.2.1] at e9; subst e9; have H9 := hid h9; clear hown9 hgrow9 hnil9 h9)
            | (go_at_call 18; go_must (refine (HSt.out _ H9.out.tl).mono ?_; rintro e w10 ⟨rfl, hb10⟩; have H10 := hid (H9.out.keep hb10); clear hb10)))
          go_roundw
          case rel => exact ⟨j + 1, ⟨ep, l, s.vs ++ [(f, (t, C))]⟩, by have := HJ.out; omega, by go_num, by rw [HNum.out.1], H10.out.keep ((Below.refl _ _).alloc (Nat.le_refl _) _), HIn.out⟩
          case measure => simp [intOf]; omega
        · have hm1 : ¬ ((j : Int).tmod 4 = 3) := by rw [Int.tmod_eq_emod_of_nonneg (by omega)]; omega
          go_wp2
          obtain ⟨wq, eq⟩ : ∃ wq, wq = wz := ⟨_, rfl⟩
          have HW : Hid (VwAt wq p f t (.slice a n cap) 0 ∧ EnSt w wq B F (.pointer (some ⟨g, 0, none⟩)) s ep (.slice a n cap) (Value.slice au s.vs.length cu)) := hid ⟨by rw [eq]; exact HZ.out.1, by rw [eq]; exact HZ.out.2.1⟩
          rw [← eq]
          clear eq
          have hTA : tA t j = t := by rw [tA, if_neg hmod]
          obtain ⟨hvB, hvC, hyes, hnot⟩ := HZ.out.2.2.1.add j f HP.out.1 HP.out.2.1 HP.out.2.2.1 HP.out.2.2.2.1
          rw [hTA] at hvB hvC hyes hnot
          have hTs : t.size ≤ 140737488355328 := by have := tA_size t j; rw [hTA] at this; have := HP.out.1; omega
          have HG : Hid (∀ u : World, Below w.heap.size w u → Calls Try.prog 14 #[.agg #[.int .i64 f, .string t, .slice a n cap, .int .i64 0], .agg #[.int .i64 ep, .slice a n cap]] u fun e w' => ∃ ad cd, e = .returned (.slice ad 2 cd) ∧ PairsIn w' ad (sgOf f (voS ep l t l) C 0) ∧ Below u.heap.size u w') := hid (fun u hu => by
            have hmx : n ≤ maxLen := by have := HP.out.2.2.2.2.1; have := HP.out.2.2.2.2.2.1; unfold maxLen; omega
            have := usigs_any f t hTs a n cap l HP.out.2.2.2.2.2.1 hmx 0 ep a n cap l HP.out.2.2.2.2.2.1 hmx u (HI.out.1.keep hu (Nat.le_refl _)) (HI.out.1.keep hu (Nat.le_refl _))
            rw [hvC] at this
            exact this.mono fun e w' ⟨ad, cd, k1, k2, k3⟩ => ⟨ad, cd, k1, k2.1, k3⟩)
          obtain ⟨hne, hsame⟩ := hnot hfr
          have HIn : Hid (EnIn ep l t C s) := hid HZ.out.2.2.1
          have HAd0 : Hid (∀ (u : World) (ad : Option Addr) (cd : Nat), Below w.heap.size w u → TlAt F u (.pointer (some ⟨g, 0, none⟩)) s → PairsIn u ad (sgOf f (voS ep l t l) C 0) → Calls Try.prog 15 #[.pointer (some ⟨g, 0, none⟩), .int .i64 f, .string t, .slice a n cap, .slice ad 2 cd] u fun e w' => e = .returned (.int .i64 (addE s f t l (sgOf f (voS ep l t l) C 0))) ∧ TlAt F w' (.pointer (some ⟨g, 0, none⟩)) s ∧ Out F u w') := hid (fun u ad cd hu ht hp => by
            have hmx : n ≤ maxLen := by have := HP.out.2.2.2.2.1; have := HP.out.2.2.2.2.2.1; unfold maxLen; omega
            have := vadd_at F _ s f t hTs a n cap l HP.out.2.2.2.2.2.1 hmx ad 2 cd (sgOf f (voS ep l t l) C 0) rfl (by decide) u ht (HI.out.1.keep hu (Nat.le_refl _)) hp
            rwa [hsame] at this)
          obtain ⟨E, hE⟩ : ∃ E, E = addE s f t l (sgOf f (voS ep l t l) C 0) := ⟨_, rfl⟩
          rw [← hE] at hne
          have HAd := HAd0
          rw [← hE] at HAd
          clear hE HAd0 hsame
          clear hvB hvC hyes hnot hTs hTA HZ
          generalize sgOf f (voS ep l t l) C 0 = SG at HG HAd
          have HWd : Hid (VwAt wq.drew p f t (.slice a n cap) 0 ∧ EnSt w wq.drew B F (.pointer (some ⟨g, 0, none⟩)) s ep (.slice a n cap) (Value.slice au s.vs.length cu)) := hid ⟨HW.out.1, HW.out.2.keep (Below.refl _ _).drew⟩
          refine wp_region_G (S := fun ww => VwAt ww p f t (.slice a n cap) 0 ∧ CvAt ww w.heap.size ep (.slice a n cap)) (ex := []) (by kernel_rfl) ?_
          try (change wpAnyG _ _ _ _ _ _ _ _ _ (World.drew _))
          refine wpAnyG_take (i := 0) (v := ?v221) rfl (by kernel_rfl) (fun _ _ _ h => h) (Or.inl ⟨by rfl, ?hy221⟩) ⟨HWd.out.1, HWd.out.2.cf⟩ ?rest221
          case hy221 => (intro ww _; go_simp; try with_reducible rfl)
          go_simp
          refine wpAnyG_take (i := 1) (v := ?v222) rfl (by kernel_rfl) (fun _ _ _ h => h) (Or.inl ⟨by rfl, ?hy222⟩) ⟨HWd.out.1, HWd.out.2.cf⟩ ?rest222
          case hy222 => (intro ww _; go_simp; try with_reducible rfl)
          go_simp
          refine wpAnyG_take (i := 2) (v := ?v223) rfl (by kernel_rfl) (fun _ _ _ h => h) (Or.inl ⟨by rfl, ?hy223⟩) ⟨HWd.out.1, HWd.out.2.cf⟩ ?rest223
          case hy223 => (intro ww hS; obtain ⟨y0, y1, y2, y3⟩ := hS.1.cells; obtain ⟨y4, y5⟩ := hS.2.cells; go_simp; try with_reducible rfl)
          go_simp
          refine wpAnyG_take (i := 3) (v := ?v224) rfl (by kernel_rfl) (fun _ _ _ h => h) (Or.inl ⟨by rfl, ?hy224⟩) ⟨HWd.out.1, HWd.out.2.cf⟩ ?rest224
          case hy224 => (intro ww _; go_simp; try with_reducible rfl)
          go_simp
          refine wpAnyG_take (i := 4) (v := ?v225) rfl (by kernel_rfl) (fun _ _ _ h => h) (Or.inl ⟨by rfl, ?hy225⟩) ⟨HWd.out.1, HWd.out.2.cf⟩ ?rest225
          case hy225 => (intro ww hS; obtain ⟨y0, y1, y2, y3⟩ := hS.1.cells; obtain ⟨y4, y5⟩ := hS.2.cells; go_simp; try with_reducible rfl)
          go_simp
          refine wpAnyG_take (i := 5) (v := ?v226) rfl (by kernel_rfl) (fun _ _ _ h => h) (Or.inl ⟨by rfl, ?hy226⟩) ⟨HWd.out.1, HWd.out.2.cf⟩ ?rest226
          case hy226 => (intro ww _; go_simp; try with_reducible rfl)
          go_simp
          refine wpAnyG_take (i := 6) (v := ?v227) rfl (by kernel_rfl) (fun _ _ _ h => h) (Or.inl ⟨by rfl, ?hy227⟩) ⟨HWd.out.1, HWd.out.2.cf⟩ ?rest227
          case hy227 => (intro ww hS; obtain ⟨y0, y1, y2, y3⟩ := hS.1.cells; obtain ⟨y4, y5⟩ := hS.2.cells; go_simp; try with_reducible rfl)
          go_simp
          refine wpAnyG_take (i := 7) (v := ?v228) rfl (by kernel_rfl) (fun _ _ _ h => h) (Or.inl ⟨by rfl, ?hy228⟩) ⟨HWd.out.1, HWd.out.2.cf⟩ ?rest228
          case hy228 => (intro ww hS; obtain ⟨y0, y1, y2, y3⟩ := hS.1.cells; obtain ⟨y4, y5⟩ := hS.2.cells; go_simp; try with_reducible rfl)
          go_simp
          refine wpAnyG_take (i := 8) (v := ?v229) rfl (by kernel_rfl) (fun _ _ _ h => h) (Or.inl ⟨by rfl, ?hy229⟩) ⟨HWd.out.1, HWd.out.2.cf⟩ ?rest229
          case hy229 => (intro ww hS; obtain ⟨y0, y1, y2, y3⟩ := hS.1.cells; obtain ⟨y4, y5⟩ := hS.2.cells; go_simp; try with_reducible rfl)
          go_simp
          refine wpAnyG_all (rs := [9]) (by kernel_rfl) (by simp) ?_
          intro i hi
          obtain rfl := List.mem_singleton.1 hi
          clear hi
          refine wpOp_v rfl (by rfl) (fun K hK => ?_)
          go_simp
          refine (HG.out _ HWd.out.2.bel).mono ?_
          rintro e w5 ⟨ad5, cd5, rfl, hp5, hb5⟩
          have H5 : Hid (VwAt w5 p f t (.slice a n cap) 0 ∧ EnSt w w5 B F (.pointer (some ⟨g, 0, none⟩)) s ep (.slice a n cap) (Value.slice au s.vs.length cu) ∧ PairsIn w5 ad5 SG) := hid ⟨HWd.out.1.keep hb5, HWd.out.2.keep hb5, hp5⟩
          clear hp5 hb5
          refine hK _ _ ⟨fun _ => ⟨H5.out.1, H5.out.2.1.cf⟩, ?_⟩
          clear hK K
          go_simp
          refine wpAnyG_all (rs := [10]) (by kernel_rfl) (by simp) ?_
          intro i hi
          obtain rfl := List.mem_singleton.1 hi
          clear hi
          refine wpOp_v rfl (by rfl) (fun K hK => ?_)
          go_simp
          refine (HAd.out _ _ _ H5.out.2.1.bel H5.out.2.1.tl H5.out.2.2).mono ?_
          rintro e w6 ⟨rfl, ht6, ho6⟩
          have H6 : Hid (VwAt w6 p f t (.slice a n cap) 0 ∧ EmSt w w6 B F (.pointer (some ⟨g, 0, none⟩)) s s ep (.slice a n cap) (Value.slice au s.vs.length cu)) := hid ⟨(ho6.block _ (lt_of_blk H5.out.1) (fun hm => by have h1 := (H5.out.2.1.far _ hm).2; have h2 := HPB.out; omega)).trans H5.out.1, H5.out.2.1.vote ho6 ht6⟩
          clear ht6 ho6
          refine hK _ _ ⟨fun _ => ⟨H6.out.1, H6.out.2.cf⟩, ?_⟩
          clear hK K
          go_simp
          refine wpAnyG_all (rs := [11]) (by kernel_rfl) (by simp) ?_
          intro i hi
          obtain rfl := List.mem_singleton.1 hi
          clear hi
          refine wpOp_v rfl (by rfl) (fun K hK => ?_)
          go_simp
          refine hK _ _ ⟨fun _ => ⟨H6.out.1, H6.out.2.cf⟩, ?_⟩
          clear hK K
          go_simp
          refine wpAnyG_done (by kernel_rfl) ?_ _
          go_simp
          have HW6 := H6
          by_cases hvt : voted s.vs f = true
          · have HK : Hid (∀ u : World, EmSt w u B F (.pointer (some ⟨g, 0, none⟩)) s s ep (.slice a n cap) (Value.slice au s.vs.length cu) → Calls Try.prog 26 #[.slice au s.vs.length cu, .int .i64 f] u fun e w' => ∃ K : Int, 0 ≤ K ∧ e = .returned (.int .i64 K) ∧ Below u.heap.size u w') := hid (fun u hu => by
              have hmx : s.vs.length ≤ maxLen := by have := HIo.out.ok.len; have := HIo.out.ok.mlen; unfold maxLen; omega
              have := uwhere_any au _ cu (s.vs.map (·.1)) (List.length_map ..) hmx f u (own_intsV hu.own)
              rw [whereI, if_pos (voted_iff.1 hvt)] at this
              exact this.mono fun e w' ⟨k1, k2⟩ => ⟨_, Int.natCast_nonneg _, k1, k2⟩)
            have x2 := HW6.out.1.cells.1
            obtain ⟨x3, x4⟩ := HW6.out.2.cf.cells
            obtain ⟨N, eN⟩ : ∃ N, N = cntB s.vs (t, C) := ⟨_, rfl⟩
            obtain ⟨M, eM⟩ : ∃ M, M = cntB s.vs (t ++ qmark, C) := ⟨_, rfl⟩
            obtain ⟨L, eL⟩ : ∃ L, L = s.vs.length := ⟨_, rfl⟩
            have hsum : N + M = L := by rw [eN, eM, eL]; exact HIn.out.sum
            have hL10 : L ≤ 10 := by have h1 := HIn.out.ok.len; have h2 := HIn.out.ok.mlen; rw [eL]; exact Nat.le_trans h1 h2.2
            have hsub : IntKind.i64.wrap ((L : Int) - (N : Int)) = (M : Int) := by
              rw [show (L : Int) - (N : Int) = (M : Int) by omega]
              exact wrap_small (M : Int) (by omega) (by omega)
            have hqq : quoT s = q := by rw [quoT, HIn.out.mem, HP.out.2.2.2.2.2.1, HP.out.2.2.2.2.2.2.1]
            have HNum := hid (And.intro eN (And.intro eM (And.intro eL (And.intro hsum hL10))))
            have hal : cntB s.vs (t, C) = N := by rw [eN]
            rw [hal]
            clear hal
            have H90 : Hid (∀ u : World, EmSt w u B F (.pointer (some ⟨g, 0, none⟩)) s s ep (.slice a n cap) (Value.slice au s.vs.length cu) → EnSt w u B F (.pointer (some ⟨g, 0, none⟩)) s ep (.slice a n cap) (Value.slice au s.vs.length cu)) := hid (fun u h => ⟨h.own, h.tl, h.cf, h.bel, h.far, h.le⟩)
            have HQq := hid hqq
            clear eN eM eL hsum hqq hL10 hmod
            by_cases h1 : q ≤ (N : Int)
            · have HSt : Hid (∀ u : World, TlAt F u (.pointer (some ⟨g, 0, none⟩)) s → Calls Try.prog 18 #[.pointer (some ⟨g, 0, none⟩)] u fun e w' => (∃ a1 c1 x2 a2 n2 c2 a3 n3 c3, e = .returned (.tuple #[.agg #[.string t, .slice a1 N c1, .int .i64 x2, .slice a2 n2 c2, .slice a3 n3 c3], .bool true])) ∧ Below u.heap.size u w') := hid (fun u hu => (vsettled_at F _ _ u hu).mono fun e w' ⟨r, k1, k2, k3⟩ => by
                obtain ⟨hc1, hc2⟩ := chB_eq HIn.out.ok (b := (t, C)) (by rw [HQq.out, ← HNum.out.1]; exact h1)
                rw [SetAns, if_pos hc1] at k2
                obtain ⟨a1, c1, a2, c2, a3, c3, k4, _⟩ := k2
                have hsg := signs_cnt HIn.out.ok (chB_not HIn.out.ok hc1) (setS s)
                rw [hc2, ← HNum.out.1] at hsg
                rw [hc2, hsg] at k4
                exact ⟨⟨a1, c1, _, a2, _, c2, a3, _, c3, by rw [k1, k4]⟩, k3⟩)
              rw [HNum.out.2.2.1] at hsub
              go_wp2_with (first
                | (go_at_call 26; go_must (refine (HK.out _ HW6.out.2).mono ?_; rintro e w7 ⟨K7, hK0, rfl, hb7⟩; have hK7 : ¬ (K7 < 0) := (by omega); clear hK0; have H7 : Hid (VwAt w7 p f t (.slice a n cap) 0 ∧ EmSt w w7 B F (.pointer (some ⟨g, 0, none⟩)) s s ep (.slice a n cap) (Value.slice au s.vs.length cu)) := hid ⟨HW6.out.1.keep hb7, HW6.out.2.keep hb7⟩; clear hb7 x2 x3 x4; have x2 := H7.out.1.cells.1; obtain ⟨x3, x4⟩ := H7.out.2.cf.cells))
                | (go_at_call 18; go_must (have H9 := hid (H90.out _ H7.out.2); refine (HSt.out _ H9.out.tl).mono ?_; rintro e w10 ⟨⟨a1, c1, x5, a2, n2, c2, a3, n3, c3, rfl⟩, hb10⟩; have H10 := hid (H9.out.keep hb10); clear hb10)))
              go_roundw
              case rel => exact ⟨j + 1, s, by have := HJ.out; omega, by go_num, by rw [HNum.out.1], H10.out.keep ((Below.refl _ _).alloc (Nat.le_refl _) _), HIn.out⟩
              case measure => simp [intOf]; omega
            by_cases h2 : q ≤ (M : Int)
            · have HSt : Hid (∀ u : World, TlAt F u (.pointer (some ⟨g, 0, none⟩)) s → Calls Try.prog 18 #[.pointer (some ⟨g, 0, none⟩)] u fun e w' => (∃ x1 a1 n1 c1 x2 a2 n2 c2 a3 n3 c3, e = .returned (.tuple #[.agg #[.string x1, .slice a1 n1 c1, .int .i64 x2, .slice a2 n2 c2, .slice a3 n3 c3], .bool true])) ∧ Below u.heap.size u w') := hid (fun u hu => (vsettled_at F _ _ u hu).mono fun e w' ⟨r, k1, k2, k3⟩ => by
                obtain ⟨hc1, hc2⟩ := chB_eq HIn.out.ok (b := (t ++ qmark, C)) (by rw [HQq.out, ← HNum.out.2.1]; exact h2)
                rw [SetAns, if_pos hc1] at k2
                obtain ⟨a1, c1, a2, c2, a3, c3, k4, _⟩ := k2
                exact ⟨⟨_, a1, _, c1, _, a2, _, c2, a3, _, c3, by rw [k1, k4]⟩, k3⟩)
              rw [HNum.out.2.2.1] at hsub
              go_wp2_with (first
                | (go_at_call 26; go_must (refine (HK.out _ HW6.out.2).mono ?_; rintro e w7 ⟨K7, hK0, rfl, hb7⟩; have hK7 : ¬ (K7 < 0) := (by omega); clear hK0; have H7 : Hid (VwAt w7 p f t (.slice a n cap) 0 ∧ EmSt w w7 B F (.pointer (some ⟨g, 0, none⟩)) s s ep (.slice a n cap) (Value.slice au s.vs.length cu)) := hid ⟨HW6.out.1.keep hb7, HW6.out.2.keep hb7⟩; clear hb7 x2 x3 x4; have x2 := H7.out.1.cells.1; obtain ⟨x3, x4⟩ := H7.out.2.cf.cells))
                | (go_at_call 18; go_must (have H9 := hid (H90.out _ H7.out.2); refine (HSt.out _ H9.out.tl).mono ?_; rintro e w10 ⟨⟨x4, a1, n1, c1, x5, a2, n2, c2, a3, n3, c3, rfl⟩, hb10⟩; have H10 := hid (H9.out.keep hb10); clear hb10)))
              go_roundw
              case rel => exact ⟨j + 1, s, by have := HJ.out; omega, by go_num, by rw [HNum.out.1], H10.out.keep ((Below.refl _ _).alloc (Nat.le_refl _) _), HIn.out⟩
              case measure => simp [intOf]; omega
            have HSt : Hid (∀ u : World, TlAt F u (.pointer (some ⟨g, 0, none⟩)) s → Calls Try.prog 18 #[.pointer (some ⟨g, 0, none⟩)] u fun e w' => (e = .returned (.tuple #[.agg #[.string ⟨#[]⟩, .slice none 0 0, .int .i64 0, .slice none 0 0, .slice none 0 0], .bool false])) ∧ Below u.heap.size u w') := hid (fun u hu => (vsettled_at F _ _ u hu).mono fun e w' ⟨r, k1, k2, k3⟩ => by
              have hcf : chF s = false := by rw [HIn.out.ch, HQq.out, ← HNum.out.1, ← HNum.out.2.1, decide_eq_false h1, decide_eq_false h2]; rfl
              rw [SetAns, hcf] at k2
              exact ⟨by rw [k1, show r = NoSet from k2]; rfl, k3⟩)
            rw [HNum.out.2.2.1] at hsub
            go_wp2_with (first
              | (go_at_call 26; go_must (refine (HK.out _ HW6.out.2).mono ?_; rintro e w7 ⟨K7, hK0, rfl, hb7⟩; have hK7 : ¬ (K7 < 0) := (by omega); clear hK0; have H7 : Hid (VwAt w7 p f t (.slice a n cap) 0 ∧ EmSt w w7 B F (.pointer (some ⟨g, 0, none⟩)) s s ep (.slice a n cap) (Value.slice au s.vs.length cu)) := hid ⟨HW6.out.1.keep hb7, HW6.out.2.keep hb7⟩; clear hb7 x2 x3 x4; have x2 := H7.out.1.cells.1; obtain ⟨x3, x4⟩ := H7.out.2.cf.cells))
              | (go_at_call 18; go_must (have H9 := hid (H90.out _ H7.out.2); refine (HSt.out _ H9.out.tl).mono ?_; rintro e w10 ⟨rfl, hb10⟩; have H10 := hid (H9.out.keep hb10); clear hb10)))
            go_roundw
            case rel => exact ⟨j + 1, s, by have := HJ.out; omega, by go_num, by rw [HNum.out.1], H10.out.keep ((Below.refl _ _).alloc (Nat.le_refl _) _), HIn.out⟩
            case measure => simp [intOf]; omega
          · have HWh : Hid (∀ u : World, EmSt w u B F (.pointer (some ⟨g, 0, none⟩)) s s ep (.slice a n cap) (Value.slice au s.vs.length cu) → Calls Try.prog 26 #[.slice au s.vs.length cu, .int .i64 f] u fun e w' => e = .returned (.int .i64 (-1)) ∧ Below u.heap.size u w') := hid (fun u hu => by
              have hmx : s.vs.length ≤ maxLen := by have := HIo.out.ok.len; have := HIo.out.ok.mlen; unfold maxLen; omega
              have := uwhere_any au _ cu (s.vs.map (·.1)) (List.length_map ..) hmx f u (own_intsV hu.own)
              rwa [whereI, if_neg (voted_false.1 (by simpa using hvt))] at this)
            have HHa : Hid (∀ u : World, Below w.heap.size w u → Calls Try.prog 24 #[.slice a n cap, .int .i64 f] u fun e w' => e = .returned (.bool false) ∧ Below u.heap.size u w') := hid (fun u hu => by
              have hmx : n ≤ maxLen := by have := HP.out.2.2.2.2.1; have := HP.out.2.2.2.2.2.1; unfold maxLen; omega
              have := vhas_any a n cap l HP.out.2.2.2.2.2.1 hmx f u (HI.out.1.keep hu (Nat.le_refl _))
              rw [show hasM l f = false from decide_eq_false (fun hm => hfr ⟨hm, by simpa using hvt⟩)] at this
              exact this.mono fun e w' ⟨k1, k2⟩ => ⟨k1, k2 ▸ Below.refl _ _⟩)
            have x2 := HW6.out.1.cells.1
            obtain ⟨x3, x4⟩ := HW6.out.2.cf.cells
            obtain ⟨N, eN⟩ : ∃ N, N = cntB s.vs (t, C) := ⟨_, rfl⟩
            obtain ⟨M, eM⟩ : ∃ M, M = cntB s.vs (t ++ qmark, C) := ⟨_, rfl⟩
            obtain ⟨L, eL⟩ : ∃ L, L = s.vs.length := ⟨_, rfl⟩
            have hsum : N + M = L := by rw [eN, eM, eL]; exact HIn.out.sum
            have hL10 : L ≤ 10 := by have h1 := HIn.out.ok.len; have h2 := HIn.out.ok.mlen; rw [eL]; exact Nat.le_trans h1 h2.2
            have hsub : IntKind.i64.wrap ((L : Int) - (N : Int)) = (M : Int) := by
              rw [show (L : Int) - (N : Int) = (M : Int) by omega]
              exact wrap_small (M : Int) (by omega) (by omega)
            have hqq : quoT s = q := by rw [quoT, HIn.out.mem, HP.out.2.2.2.2.2.1, HP.out.2.2.2.2.2.2.1]
            have HNum := hid (And.intro eN (And.intro eM (And.intro eL (And.intro hsum hL10))))
            have hal : cntB s.vs (t, C) = N := by rw [eN]
            rw [hal]
            clear hal
            have H90 : Hid (∀ u : World, EmSt w u B F (.pointer (some ⟨g, 0, none⟩)) s s ep (.slice a n cap) (Value.slice au s.vs.length cu) → EnSt w u B F (.pointer (some ⟨g, 0, none⟩)) s ep (.slice a n cap) (Value.slice au s.vs.length cu)) := hid (fun u h => ⟨h.own, h.tl, h.cf, h.bel, h.far, h.le⟩)
            have HQq := hid hqq
            clear eN eM eL hsum hqq hL10 hmod
            by_cases h1 : q ≤ (N : Int)
            · have HSt : Hid (∀ u : World, TlAt F u (.pointer (some ⟨g, 0, none⟩)) s → Calls Try.prog 18 #[.pointer (some ⟨g, 0, none⟩)] u fun e w' => (∃ a1 c1 x2 a2 n2 c2 a3 n3 c3, e = .returned (.tuple #[.agg #[.string t, .slice a1 N c1, .int .i64 x2, .slice a2 n2 c2, .slice a3 n3 c3], .bool true])) ∧ Below u.heap.size u w') := hid (fun u hu => (vsettled_at F _ _ u hu).mono fun e w' ⟨r, k1, k2, k3⟩ => by
                obtain ⟨hc1, hc2⟩ := chB_eq HIn.out.ok (b := (t, C)) (by rw [HQq.out, ← HNum.out.1]; exact h1)
                rw [SetAns, if_pos hc1] at k2
                obtain ⟨a1, c1, a2, c2, a3, c3, k4, _⟩ := k2
                have hsg := signs_cnt HIn.out.ok (chB_not HIn.out.ok hc1) (setS s)
                rw [hc2, ← HNum.out.1] at hsg
                rw [hc2, hsg] at k4
                exact ⟨⟨a1, c1, _, a2, _, c2, a3, _, c3, by rw [k1, k4]⟩, k3⟩)
              rw [HNum.out.2.2.1] at hsub
              go_wp2_with (first
                | (go_at_call 26; go_must (refine (HWh.out _ HW6.out.2).mono ?_; rintro e w7 ⟨rfl, hb7⟩; have H7 : Hid (VwAt w7 p f t (.slice a n cap) 0 ∧ EmSt w w7 B F (.pointer (some ⟨g, 0, none⟩)) s s ep (.slice a n cap) (Value.slice au s.vs.length cu)) := hid ⟨HW6.out.1.keep hb7, HW6.out.2.keep hb7⟩; clear hb7 x2 x3 x4; have x2 := H7.out.1.cells.1; obtain ⟨x3, x4⟩ := H7.out.2.cf.cells))
                | (go_at_call 24; go_must (refine (HHa.out _ H7.out.2.bel).mono ?_; rintro e w8 ⟨rfl, hb8⟩; have H8 : Hid (VwAt w8 p f t (.slice a n cap) 0 ∧ EmSt w w8 B F (.pointer (some ⟨g, 0, none⟩)) s s ep (.slice a n cap) (Value.slice au s.vs.length cu)) := hid ⟨H7.out.1.keep hb8, H7.out.2.keep hb8⟩; clear hb8 x2 x3 x4; have x2 := H8.out.1.cells.1; obtain ⟨x3, x4⟩ := H8.out.2.cf.cells))
                | (go_at_call 18; go_must (have H9 := hid (H90.out _ H8.out.2); refine (HSt.out _ H9.out.tl).mono ?_; rintro e w10 ⟨⟨a1, c1, x5, a2, n2, c2, a3, n3, c3, rfl⟩, hb10⟩; have H10 := hid (H9.out.keep hb10); clear hb10)))
              go_roundw
              case rel => exact ⟨j + 1, s, by have := HJ.out; omega, by go_num, by rw [HNum.out.1], H10.out.keep ((Below.refl _ _).alloc (Nat.le_refl _) _), HIn.out⟩
              case measure => simp [intOf]; omega
            by_cases h2 : q ≤ (M : Int)
            · have HSt : Hid (∀ u : World, TlAt F u (.pointer (some ⟨g, 0, none⟩)) s → Calls Try.prog 18 #[.pointer (some ⟨g, 0, none⟩)] u fun e w' => (∃ x1 a1 n1 c1 x2 a2 n2 c2 a3 n3 c3, e = .returned (.tuple #[.agg #[.string x1, .slice a1 n1 c1, .int .i64 x2, .slice a2 n2 c2, .slice a3 n3 c3], .bool true])) ∧ Below u.heap.size u w') := hid (fun u hu => (vsettled_at F _ _ u hu).mono fun e w' ⟨r, k1, k2, k3⟩ => by
                obtain ⟨hc1, hc2⟩ := chB_eq HIn.out.ok (b := (t ++ qmark, C)) (by rw [HQq.out, ← HNum.out.2.1]; exact h2)
                rw [SetAns, if_pos hc1] at k2
                obtain ⟨a1, c1, a2, c2, a3, c3, k4, _⟩ := k2
                exact ⟨⟨_, a1, _, c1, _, a2, _, c2, a3, _, c3, by rw [k1, k4]⟩, k3⟩)
              rw [HNum.out.2.2.1] at hsub
              go_wp2_with (first
                | (go_at_call 26; go_must (refine (HWh.out _ HW6.out.2).mono ?_; rintro e w7 ⟨rfl, hb7⟩; have H7 : Hid (VwAt w7 p f t (.slice a n cap) 0 ∧ EmSt w w7 B F (.pointer (some ⟨g, 0, none⟩)) s s ep (.slice a n cap) (Value.slice au s.vs.length cu)) := hid ⟨HW6.out.1.keep hb7, HW6.out.2.keep hb7⟩; clear hb7 x2 x3 x4; have x2 := H7.out.1.cells.1; obtain ⟨x3, x4⟩ := H7.out.2.cf.cells))
                | (go_at_call 24; go_must (refine (HHa.out _ H7.out.2.bel).mono ?_; rintro e w8 ⟨rfl, hb8⟩; have H8 : Hid (VwAt w8 p f t (.slice a n cap) 0 ∧ EmSt w w8 B F (.pointer (some ⟨g, 0, none⟩)) s s ep (.slice a n cap) (Value.slice au s.vs.length cu)) := hid ⟨H7.out.1.keep hb8, H7.out.2.keep hb8⟩; clear hb8 x2 x3 x4; have x2 := H8.out.1.cells.1; obtain ⟨x3, x4⟩ := H8.out.2.cf.cells))
                | (go_at_call 18; go_must (have H9 := hid (H90.out _ H8.out.2); refine (HSt.out _ H9.out.tl).mono ?_; rintro e w10 ⟨⟨x4, a1, n1, c1, x5, a2, n2, c2, a3, n3, c3, rfl⟩, hb10⟩; have H10 := hid (H9.out.keep hb10); clear hb10)))
              go_roundw
              case rel => exact ⟨j + 1, s, by have := HJ.out; omega, by go_num, by rw [HNum.out.1], H10.out.keep ((Below.refl _ _).alloc (Nat.le_refl _) _), HIn.out⟩
              case measure => simp [intOf]; omega
            have HSt : Hid (∀ u : World, TlAt F u (.pointer (some ⟨g, 0, none⟩)) s → Calls Try.prog 18 #[.pointer (some ⟨g, 0, none⟩)] u fun e w' => (e = .returned (.tuple #[.agg #[.string ⟨#[]⟩, .slice none 0 0, .int .i64 0, .slice none 0 0, .slice none 0 0], .bool false])) ∧ Below u.heap.size u w') := hid (fun u hu => (vsettled_at F _ _ u hu).mono fun e w' ⟨r, k1, k2, k3⟩ => by
              have hcf : chF s = false := by rw [HIn.out.ch, HQq.out, ← HNum.out.1, ← HNum.out.2.1, decide_eq_false h1, decide_eq_false h2]; rfl
              rw [SetAns, hcf] at k2
              exact ⟨by rw [k1, show r = NoSet from k2]; rfl, k3⟩)
            rw [HNum.out.2.2.1] at hsub
            go_wp2_with (first
              | (go_at_call 26; go_must (refine (HWh.out _ HW6.out.2).mono ?_; rintro e w7 ⟨rfl, hb7⟩; have H7 : Hid (VwAt w7 p f t (.slice a n cap) 0 ∧ EmSt w w7 B F (.pointer (some ⟨g, 0, none⟩)) s s ep (.slice a n cap) (Value.slice au s.vs.length cu)) := hid ⟨HW6.out.1.keep hb7, HW6.out.2.keep hb7⟩; clear hb7 x2 x3 x4; have x2 := H7.out.1.cells.1; obtain ⟨x3, x4⟩ := H7.out.2.cf.cells))
              | (go_at_call 24; go_must (refine (HHa.out _ H7.out.2.bel).mono ?_; rintro e w8 ⟨rfl, hb8⟩; have H8 : Hid (VwAt w8 p f t (.slice a n cap) 0 ∧ EmSt w w8 B F (.pointer (some ⟨g, 0, none⟩)) s s ep (.slice a n cap) (Value.slice au s.vs.length cu)) := hid ⟨H7.out.1.keep hb8, H7.out.2.keep hb8⟩; clear hb8 x2 x3 x4; have x2 := H8.out.1.cells.1; obtain ⟨x3, x4⟩ := H8.out.2.cf.cells))
              | (go_at_call 18; go_must (have H9 := hid (H90.out _ H8.out.2); refine (HSt.out _ H9.out.tl).mono ?_; rintro e w10 ⟨rfl, hb10⟩; have H10 := hid (H9.out.keep hb10); clear hb10)))
            go_roundw
            case rel => exact ⟨j + 1, s, by have := HJ.out; omega, by go_num, by rw [HNum.out.1], H10.out.keep ((Below.refl _ _).alloc (Nat.le_refl _) _), HIn.out⟩
            case measure => simp [intOf]; omega
theorem votesEnough_walk (ep : Int) (a : Option Addr) (n cap : Nat) (l : List Int) (hn : l.length = n) (hm : n ≤ maxLen) (t : ByteArray) (ht : t.size + 1 ≤ 140737488355328) (o : Option Addr) (no co : Nat) (os : List Int) (hno : os.length = no) (hmo : no ≤ maxLen) (w : World) (hI : IntsIn w a l) (hO : IntsIn w o os) :
    Calls Try.prog 7 #[.agg #[.int .i64 ep, .slice a n cap], .string t, .slice o no co] w fun e w' => e = .returned (.bool true) ∧ Below w.heap.size w w' := by
  cases hr : rightC ep l with
  | false => exact venough_skip ep a n cap l hn hm t o no co (.inl hr) w hI
  | true =>
    by_cases h60 : 60 ≤ ep
    · exact venough_skip ep a n cap l hn hm t o no co (.inr ⟨hr, .inl h60⟩) w hI
    · by_cases h0 : 0 < t.size
      · exact venough_go ep a n cap l hn t ht o no co os hno hmo hr (by omega) h0 w hI hO
      · exact venough_skip ep a n cap l hn hm t o no co (.inr ⟨hr, .inr h0⟩) w hI
end Go.Proofs.Ytkceihnjnjbceaa
